"""Shares whose holders are in doubt, and what is sure all the same."""

from roundowned.carrying import carried
from roundowned.checks import check_house, check_lot, climbs, right_holder, right_share
from roundowned.errors import NoDoubts, TooMany
from roundowned.making import resold

MOST_WAYS = 1000


def check_doubts(web, doubts):
    """Raise NoDoubts for what is no dict from shares to those who may hold them."""
    if not right_doubts(web, doubts):
        raise NoDoubts()


def right_doubts(web, thing):
    """Whether a thing is a dict from shares to those who may hold them."""
    if not isinstance(thing, dict):
        return False
    return all([right_share(web, share) and right_choice(web, holders) for share, holders in thing.items()])


def right_choice(web, thing):
    """Whether a thing is an ascending tuple of two unlike holders or more."""
    if not isinstance(thing, tuple) or len(thing) < 2:
        return False
    return all([right_holder(holder, web.folk, len(web.houses)) for holder in thing]) and climbs(thing)


def dealt(web, doubts):
    """The number of ways to deal the shares in doubt."""
    check_doubts(web, doubts)
    many = 1
    for holders in doubts.values():
        many = many * len(holders)
    return many


def ways_judged(web, doubts, lot, house):
    """The list of all ways, tuples of holders by ascending shares, each paired with whether a lot carries a house."""
    many = dealt(web, doubts)
    check_lot(web, lot)
    check_house(web, house)
    if many > MOST_WAYS:
        raise TooMany(MOST_WAYS)
    shares = sorted(list(doubts))
    ways = [()]
    for share in shares:
        ways = [way + (holder,) for way in ways for holder in doubts[share]]
    return [(way, house in carried(resold(web, dict(zip(shares, way))), lot)) for way in ways]


def word_for(flags):
    """The word for a house that a lot carries as some flags tell, one for each way."""
    if all(flags):
        return "surely"
    return "perhaps" if any(flags) else "never"


def surely(web, doubts, lot, house):
    """Whether a lot carries a house: "surely" or "never", if so in each way, otherwise "perhaps"."""
    return word_for([flag for way, flag in ways_judged(web, doubts, lot, house)])


def dealings(web, doubts, lot, house):
    """The pair of a dict by which a lot carries a house and one by which it does not, each None if there is none."""
    judged = ways_judged(web, doubts, lot, house)
    return (first_dealing(doubts, judged, True), first_dealing(doubts, judged, False))


def first_dealing(doubts, judged, wanted):
    """The dict from the shares in doubt to holders of the first way with a flag, None if there is none."""
    for way, flag in judged:
        if flag == wanted:
            return dict(zip(sorted(list(doubts)), way))
    return None


def ask_first(web, doubts, lot, house):
    """The least share in doubt of those whose holder, once known, leaves the fewest ways at most open."""
    judged = ways_judged(web, doubts, lot, house)
    if word_for([flag for way, flag in judged]) != "perhaps":
        return None
    most = [(most_left(judged, at, doubts[share]), share) for at, share in enumerate(sorted(list(doubts)))]
    return min(most)[1]


def most_left(judged, at, holders):
    """The greatest number of ways that are left open when the share at a place has one of its possible holders."""
    return max([left_open([flag for way, flag in judged if way[at] == holder]) for holder in holders])


def left_open(flags):
    """How many ways there are, but 0 if by all of them the lot carries the house, or by none."""
    return len(flags) if word_for(flags) == "perhaps" else 0
