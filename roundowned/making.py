"""Webs made from webs."""

from roundowned.checks import (MOST_FOLK, check_holder, check_house, check_person, number_in, right_order,
                               right_shares)
from roundowned.errors import NoClosing, NoFolk, NoMatch, NoOrder, NoShare, NoShares
from roundowned.webs import web_of_any_size


def renamed(houses, names):
    """Houses with other holders instead of those that a dict names."""
    return tuple([tuple(sorted([names.get(holder, holder) for holder in shares])) for shares in houses])


def shifted(houses, many):
    """Houses that stand behind so many others, as their holders tell."""
    return renamed(houses, {("h", number): ("h", number + many) for number in range(len(houses))})


def sold(web, house, share, holder):
    """The web in which a share of a house, told by its place, has this holder."""
    check_house(web, house)
    shares = web.houses[house]
    if not number_in(share, 0, len(shares) - 1):
        raise NoShare()
    check_holder(web, holder)
    dealt = tuple(sorted(shares[:share] + (holder,) + shares[share + 1:]))
    return web_of_any_size(web.folk, web.houses[:house] + (dealt,) + web.houses[house + 1:])


def resold(web, holders):
    """The web in which the shares that a dict names, pairs (house, place), have the holders that it tells."""
    rows = [list(shares) for shares in web.houses]
    for (house, place), holder in holders.items():
        rows[house][place] = holder
    return web_of_any_size(web.folk, tuple([tuple(sorted(row)) for row in rows]))


def founded(web, shares):
    """The web with one house more, behind the others."""
    if not right_shares(shares, web.folk, len(web.houses) + 1):
        raise NoShares()
    return web_of_any_size(web.folk, web.houses + (shares,))


def closed(web, house):
    """The web without a house, the holders of which take over what it holds."""
    check_house(web, house)
    gone = ("h", house)
    left = [holder for holder in web.houses[house] if holder != gone]
    if len(left) % 2 == 0:
        raise NoClosing()
    others = web.houses[:house] + web.houses[house + 1:]
    names = {("h", number): ("h", number - 1) for number in range(house + 1, len(web.houses))}
    return web_of_any_size(web.folk, renamed([taken_over(shares, gone, left) for shares in others], names))


def taken_over(shares, gone, left):
    """Shares with the left holders instead of one that is gone, the others as often, if it holds some."""
    if gone not in shares:
        return shares
    taken = []
    for holder in shares:
        if holder == gone:
            taken.extend(left)
        else:
            taken.extend([holder] * len(left))
    return taken


def renumbered(web, order):
    """The web in which the house with the number order[k] is k."""
    if not right_order(order, len(web.houses)):
        raise NoOrder()
    names = {("h", number): ("h", place) for place, number in enumerate(order)}
    return web_of_any_size(web.folk, renamed([web.houses[number] for number in order], names))


def swapped(web, order):
    """The web in which the person with the number order[k] is k."""
    if not right_order(order, web.folk):
        raise NoOrder()
    names = {("f", number): ("f", place) for place, number in enumerate(order)}
    return web_of_any_size(web.folk, renamed(web.houses, names))


def beside(one, other):
    """The web of the houses of one and, behind them, those of another, for the same folk."""
    if one.folk != other.folk:
        raise NoMatch()
    return web_of_any_size(one.folk, one.houses + shifted(other.houses, len(one.houses)))


def put_in(web, person, other, house):
    """The web in which the shares of a person are held by a house of another web, which stands behind it."""
    check_person(web, person)
    if web.folk != other.folk:
        raise NoMatch()
    check_house(other, house)
    many = len(web.houses)
    ours = renamed(web.houses, {("f", person): ("h", many + house)})
    return web_of_any_size(web.folk, ours + shifted(other.houses, many))


def spread(web, folk):
    """The web for more folk, none of whom holds a share."""
    if not number_in(folk, web.folk, MOST_FOLK):
        raise NoFolk()
    return web_of_any_size(folk, web.houses)
