"""Which lots carry a house, and what each of the folk counts in it."""

from math import factorial, gcd

from roundowned.carrying import carried
from roundowned.checks import check_house, check_lot
from roundowned.people import all_lots, parts, rest_of, together, without


def carriers(web, house):
    """The dict that tells of each lot whether it carries a house."""
    return {lot: house in carried(web, lot) for lot in all_lots(web.folk)}


def least_of(flags):
    """The ascending list of the lots that have the flag, but not without any one of theirs."""
    return sorted([lot for lot in flags if flags[lot] and not any([flags[without(lot, (one,))] for one in lot])])


def least_lots(web, house):
    """The ascending list of the lots that carry a house and of which no lesser part does."""
    check_house(web, house)
    return least_of(carriers(web, house))


def barring_lots(web, house):
    """The ascending list of the least lots that have somebody in common with each lot that carries a house."""
    check_house(web, house)
    carries = carriers(web, house)
    # A lot has nobody in common with some lot that carries the house just if its rest carries it.
    return least_of({lot: not carries[rest_of(web.folk, lot)] for lot in carries})


def needless(web, house):
    """The ascending tuple of the folk who are in no least lot."""
    lots = least_lots(web, house)
    return tuple([person for person in range(web.folk) if not any([person in lot for lot in lots])])


def needed(web, house):
    """The ascending tuple of the folk who are in each least lot, () if there is none."""
    lots = least_lots(web, house)
    return tuple([person for person in range(web.folk) if lots and all([person in lot for lot in lots])])


def fewest_added(web, lot, house):
    """The least of the smallest lots with whom a lot carries a house, None if there is none."""
    check_lot(web, lot)
    check_house(web, house)
    for part in parts(rest_of(web.folk, lot)):
        if house in carried(web, together(lot, part)):
            return part
    return None


def fewest_lost(web, lot, house):
    """The least of the smallest parts of a lot without whom it does not carry a house."""
    check_lot(web, lot)
    check_house(web, house)
    # There always is one: nobody carries no house.
    return [part for part in parts(lot) if house not in carried(web, without(lot, part))][0]


def swings(web, house):
    """For each of the folk the list of the lots that do not carry a house, but do with this person."""
    carries = carriers(web, house)
    return [[lot for lot in carries if person not in lot and not carries[lot] and carries[together(lot, (person,))]]
            for person in range(web.folk)]


def turns(web, house):
    """For each of the folk the number of the lots that carry a house just with this person."""
    check_house(web, house)
    return tuple([len(lots) for lots in swings(web, house)])


def says_most(web, house):
    """For each of the folk the fraction of all orders in which a lot first carries a house with this person."""
    check_house(web, house)
    orders = factorial(web.folk)
    return tuple([fraction(sum([orders_at(len(lot), web.folk) for lot in lots]), orders)
                  for lots in swings(web, house)])


def orders_at(many, folk):
    """In how many orders of the folk a person comes just behind so many told others."""
    return factorial(many) * factorial(folk - 1 - many)


def fraction(top, bottom):
    """The pair of two integers in lowest terms."""
    common = gcd(top, bottom)
    return (top // common, bottom // common)
