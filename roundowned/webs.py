"""Webs: some folk, houses, and who holds each share of these."""

from roundowned.checks import MOST_FOLK, check_holder, check_house, number_in, right_shares
from roundowned.errors import BadWeb

MOST_HOUSES = 12


class Web:
    """So many folk, and a tuple of houses, each an ascending tuple of the holders of its shares."""

    def __init__(self, folk, houses):
        if not number_in(folk, 1, MOST_FOLK):
            raise BadWeb("folk")
        if not isinstance(houses, tuple) or len(houses) > MOST_HOUSES:
            raise BadWeb("houses")
        for number, shares in enumerate(houses):
            if not right_shares(shares, folk, len(houses)):
                raise BadWeb(number)
        self.folk = folk
        self.houses = houses

    def __eq__(self, other):
        return isinstance(other, Web) and self.folk == other.folk and self.houses == other.houses


def web_of_any_size(folk, houses):
    """The web of right houses, which may be more, and have more shares, than a caller may construct."""
    web = Web(folk, ())
    web.houses = houses
    return web


def held(web, house, holder):
    """How many shares of a house a holder has."""
    check_house(web, house)
    check_holder(web, holder)
    return web.houses[house].count(holder)


def holdings(web, holder):
    """The ascending list of the pairs (house, number of shares) of the houses of which a holder has some."""
    check_holder(web, holder)
    counts = [(house, shares.count(holder)) for house, shares in enumerate(web.houses)]
    return [(house, many) for house, many in counts if many > 0]


def most_held(web, house):
    """The ascending tuple of the holders with most shares of a house."""
    check_house(web, house)
    shares = web.houses[house]
    counts = [(holder, shares.count(holder)) for holder in sorted(set(shares))]
    most = max([many for holder, many in counts])
    return tuple([holder for holder, many in counts if many == most])
