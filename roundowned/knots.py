"""Who carries a house: a lot, its rest, or none of both, where it hangs in a knot."""

from roundowned.carrying import carried
from roundowned.checks import check_house, check_lot, check_person, right_lot
from roundowned.people import all_lots, rest_of


def verdicts(web, lot):
    """The list of the words for each house: who carries it."""
    found = ["hung" for _ in web.houses]
    for house in carried(web, lot):
        found[house] = "lot"
    for house in carried(web, rest_of(web.folk, lot)):
        found[house] = "rest"
    return found


def verdict(web, lot, house):
    """The word for a house: "lot" or "rest", whichever of them carries it, otherwise "hung"."""
    check_lot(web, lot)
    check_house(web, house)
    return verdicts(web, lot)[house]


def hung(web, lot):
    """The ascending tuple of the houses that neither a lot nor its rest carries."""
    check_lot(web, lot)
    return tuple([house for house, word in enumerate(verdicts(web, lot)) if word == "hung"])


def is_knot(web, lot, thing):
    """Whether a thing is an ascending tuple of houses none of which a lot or its rest can turn."""
    return knot_fault(web, lot, thing) is None


def knot_fault(web, lot, thing):
    """None for a knot, otherwise its fault: the form, or the side and the first house that is carried."""
    check_lot(web, lot)
    if not right_lot(thing, len(web.houses)) or len(thing) == 0:
        return ("form",)
    words = verdicts(web, lot)
    for house in thing:
        # What has more than half with a side and what that side carries is carried by it, too.
        if words[house] != "hung":
            return (words[house], house)
    return None


def ever_hung(web):
    """The ascending list of the pairs (lot, houses) of all lots for which some houses hang."""
    pairs = [(lot, hung(web, lot)) for lot in all_lots(web.folk)]
    return [(lot, houses) for lot, houses in pairs if houses]


def carried_by_one(web, person):
    """The ascending tuple of the houses that one of the folk alone carries."""
    check_person(web, person)
    return carried(web, (person,))


def never_carried(web):
    """The ascending tuple of the houses that no lot carries."""
    # What some lot carries, all folk together carry, and their rest, which is nobody, carries no house.
    return hung(web, tuple(range(web.folk)))
