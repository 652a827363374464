"""Webs compared: houses with the same table, webs with the same boards at rest."""

from roundowned.checks import check_house, check_match, check_size
from roundowned.errors import NoMatch
from roundowned.lots import carriers
from roundowned.people import all_flags
from roundowned.turning import is_at_rest

MOST_FOR_STANDS = 8


def are_alike(one, house, other, goal):
    """Whether a house of one web and one of another have the same table."""
    return unlike_lot(one, house, other, goal) is None


def unlike_lot(one, house, other, goal):
    """The least lot that carries just one of two houses of two webs, None if there is none."""
    if one.folk != other.folk:
        raise NoMatch()
    check_house(one, house)
    check_house(other, goal)
    flags = carriers(one, house)
    others = carriers(other, goal)
    for lot in flags:
        if flags[lot] != others[lot]:
            return lot
    return None


def same_stands(one, other):
    """Whether two webs have, for each vote, the same boards at rest."""
    return unlike_stand(one, other) is None


def unlike_stand(one, other):
    """The least pair (vote, boards) such that the boards are at rest in just one of two webs, None if there is none."""
    check_match(one, other)
    check_size(one, MOST_FOR_STANDS)
    stands = all_flags(len(one.houses))
    for vote in all_flags(one.folk):
        for boards in stands:
            if is_at_rest(one, vote, boards) != is_at_rest(other, vote, boards):
                return (vote, boards)
    return None
