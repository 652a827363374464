"""Shares that a lot may buy to carry a house, or sell and lose it; votes that are bought."""

from roundowned.carrying import carried
from roundowned.checks import check_house, check_lot, check_match, check_size, climbs, right_prices, right_share
from roundowned.errors import NoLot, NoPrices, NoShares
from roundowned.lots import carriers
from roundowned.making import resold

MOST_FOR_BUYING = 10
MOST_FOR_SELLING = 12


def check_buying(web, lot, house, prices):
    """Raise the error of the first argument that is not right; the empty lot buys nothing."""
    check_lot(web, lot)
    if len(lot) == 0:
        raise NoLot()
    check_house(web, house)
    if not right_share_prices(web, prices):
        raise NoPrices()
    check_size(web, MOST_FOR_BUYING)


def right_share_prices(web, thing):
    """Whether a thing is a tuple with a tuple of the prices of its shares for each house."""
    if not isinstance(thing, tuple) or len(thing) != len(web.houses):
        return False
    return all([right_prices(row, len(shares)) for row, shares in zip(thing, web.houses)])


def cheapest(web, lot, house, prices):
    """The least sum of the prices of shares that a lot has to buy to carry a house."""
    return price_of(purchase(web, lot, house, prices), prices)


def price_of(bought, prices):
    """The sum of the prices of some shares."""
    return sum([prices[house][place] for house, place in bought])


def purchase(web, lot, house, prices):
    """The ascending list of shares with the least sum of prices by which a lot carries a house."""
    check_buying(web, lot, house, prices)
    found = purchases(web, lot, prices)
    return sorted(min([found[houses] for houses in range(len(found)) if is_among(house, houses)])[2])


def is_among(house, houses):
    """Whether a house is one of those that are told by their bits."""
    return (houses >> house) & 1 == 1


def purchases(web, lot, prices):
    """The list that has, for all houses told by their bits, what is best bought for a row of just these.

    Each is told by the sum of the prices, the number of the shares and their list: among those of the least sum the
    fewest are best, so that nothing is bought in vain.
    """
    found = [(0, 0, [])]
    many = len(web.houses)
    for houses in range(1, 1 << many):
        found.append(min([bought_last(web, lot, prices, found, houses, last)
                          for last in range(many) if is_among(last, houses)]))
    return found


def bought_last(web, lot, prices, found, houses, last):
    """What is best bought if one of the houses stands last, and needs what the others and the lot do not hold yet."""
    ahead = houses - (1 << last)
    total, many, bought = found[ahead]
    shares = lacking(web, lot, prices, ahead, last)
    return (total + price_of(shares, prices), many + len(shares), bought + shares)


def lacking(web, lot, prices, houses, last):
    """The list of the cheapest shares that a lot with some houses, told by their bits, lacks to carry one more."""
    shares = web.houses[last]
    others = [place for place, holder in enumerate(shares) if not is_with(holder, lot, houses)]
    many = max(0, len(others) - len(shares) // 2)
    return [(last, place) for _, place in sorted([(prices[last][place], place) for place in others])[:many]]


def is_with(holder, lot, houses):
    """Whether a holder is one of a lot or of some houses, told by their bits."""
    kind, number = holder
    return number in lot if kind == "f" else is_among(number, houses)


def is_purchase(web, lot, house, prices, thing):
    """Whether a thing is such a list of shares."""
    check_buying(web, lot, house, prices)
    if not right_purchase(web, lot, thing) or price_of(thing, prices) != cheapest(web, lot, house, prices):
        return False
    return house in carried(resold(web, {share: ("f", lot[0]) for share in thing}), lot)


def right_purchase(web, lot, thing):
    """Whether a thing is an ascending list of unlike shares that a lot does not hold."""
    if not isinstance(thing, list) or not all([right_share(web, share) for share in thing]) or not climbs(thing):
        return False
    return not any([is_with(web.houses[house][place], lot, 0) for house, place in thing])


def fewest_sold(web, lot, house):
    """The least number of shares without which a lot does not carry a house."""
    return len(sold_out(web, lot, house))


def sold_out(web, lot, house):
    """The ascending list of so many shares without which a lot does not carry a house."""
    check_lot(web, lot)
    check_house(web, house)
    check_size(web, MOST_FOR_SELLING)
    # Whichever houses the lot carries in the end, all others need to be left with no more than half.
    return min([beyond_half(web, lot, houses) for houses in range(1 << len(web.houses)) if not is_among(house, houses)],
               key=len)


def beyond_half(web, lot, houses):
    """The ascending list of the shares that a lot with some houses, told by bits, has beyond half of each other one."""
    found = []
    for other, shares in enumerate(web.houses):
        if not is_among(other, houses):
            theirs = [(other, place) for place, holder in enumerate(shares) if is_with(holder, lot, houses)]
            found.extend(theirs[len(shares) // 2:])
    return found


def sales(one, other):
    """The list of the triples (house, holder, holder) of the sales that make one web another."""
    check_match(one, other)
    if [len(shares) for shares in one.houses] != [len(shares) for shares in other.houses]:
        raise NoShares()
    found = []
    for house, shares in enumerate(one.houses):
        fresh = other.houses[house]
        found.extend([(house, giver, taker) for giver, taker in zip(more_in(shares, fresh), more_in(fresh, shares))])
    return found


def more_in(shares, others):
    """The ascending list of the holders that have more of some shares than of others, as often as they have more."""
    found = []
    for holder in sorted(set(shares)):
        found.extend([holder] * (shares.count(holder) - others.count(holder)))
    return found


def cheapest_votes(web, house, prices):
    """The pair (sum, lot) of the least sum of the prices of a lot that carries a house, None if none does."""
    check_house(web, house)
    if not right_prices(prices, web.folk):
        raise NoPrices()
    flags = carriers(web, house)
    return min([(sum([prices[person] for person in lot]), lot) for lot in flags if flags[lot]], default=None)
