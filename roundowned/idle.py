"""Shares that make no difference, and houses that make the same one."""

from roundowned.carrying import carried
from roundowned.people import all_lots
from roundowned.webs import web_of_any_size


def idle(web):
    """The ascending list of the pairs (house, place) of the shares whose holder makes no difference to any table."""
    found = []
    for house in range(len(web.houses)):
        found.extend([(house, place) for place in idle_places(web, house)])
    return found


def idle_places(web, house):
    """The ascending list of the places of the idle shares of a house."""
    apart = set_apart(web, house)
    shares = web.houses[house]
    weighty = [False for _ in shares]
    # The empty lot, the least one, carries nothing anyway.
    for lot in all_lots(web.folk)[1:]:
        # What a lot carries without the house stays so whoever holds its shares:
        # to the tables nothing matters but whether the lot carries the house by these.
        flags = flags_with(shares, lot, carried(apart, lot))
        crossing = crossing_flag(flags)
        weighty = [heavy or flag == crossing for heavy, flag in zip(weighty, flags)]
    return [place for place, heavy in enumerate(weighty) if not heavy]


def set_apart(web, house):
    """The web in which a house is held by itself alone, so that nobody carries it."""
    return web_of_any_size(web.folk, web.houses[:house] + ((("h", house),),) + web.houses[house + 1:])


def flags_with(shares, lot, houses):
    """For each one of some shares whether it is with a lot or some houses."""
    carried_too = {house: True for house in houses}
    return [number in (lot if kind == "f" else carried_too) for kind, number in shares]


def crossing_flag(flags):
    """The flag of the shares of which one, if it is turned, turns the house; None if one turns nothing.

    Each can be turned: sold to the house itself, that is not with the lot, or to one of the lot.
    """
    half = len(flags) // 2 + 1
    many = flags.count(True)
    if many == half:
        return True
    return False if many == half - 1 else None


def twins(web):
    """The ascending list of the pairs of houses, the first less, with the same table."""
    marks = [[] for _ in web.houses]
    for lot in all_lots(web.folk):
        carried_by_lot = {house: True for house in carried(web, lot)}
        for house, mark in enumerate(marks):
            mark.append(house in carried_by_lot)
    many = len(marks)
    return [(one, other) for one in range(many) for other in range(one + 1, many) if marks[one] == marks[other]]
