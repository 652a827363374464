import itertools
import random
import unittest

from roundowned.buying import (cheapest, cheapest_votes, fewest_sold, is_purchase, purchase, sales, sold_out)
from roundowned.carrying import carried
from roundowned.errors import NoHouse, NoLot, NoMatch, NoPrices, NoShares, TooMany
from roundowned.making import beside, founded, sold, spread
from roundowned.webs import Web
from tests import samples
from tests.samples import (A, C, CHAIN, EMPTY, FULL, K, MIXED, PLAIN, SELF, WRONG, all_lots, check_errors,
                           check_too_many, error_of, integer, kept, near_web, nested, picture, plain_resold, random_web,
                           random_webs, shares_of, wrong_but, wrong_houses, wrong_lots)
from tests.test_knots import plain_carried
from tests.test_likeness import pairs

ONES = lambda web: tuple((1,) * len(shares) for shares in web.houses)


def drawn_prices(rng, web, most=9):
    return tuple(tuple(rng.randint(0, most) for _ in shares) for shares in web.houses)


def free_shares(web, lot):
    return [(house, place) for house, place in shares_of(web)
            if web.houses[house][place] not in [("f", person) for person in lot]]


def price_of(shares, prices):
    return sum(prices[house][place] for house, place in shares)


def carries_with(web, lot, house, shares):
    """Whether a lot carries a house when it holds some shares, too."""
    return house in plain_carried(plain_resold(web, {share: ("f", lot[0]) for share in shares}), lot)


def plain_purchases(web, lot, house, prices):
    """The least sum of prices, and all lots of shares with this sum by which the lot carries the house."""
    free = free_shares(web, lot)
    best, found = None, []
    for many in range(len(free) + 1):
        for shares in itertools.combinations(free, many):
            price = price_of(shares, prices)
            if (best is None or price <= best) and carries_with(web, lot, house, shares):
                found = found + [list(shares)] if price == best else [list(shares)]
                best = price
    return best, found


def is_right_prices(web, thing):
    return (type(thing) is tuple and len(thing) == len(web.houses)
            and all(type(row) is tuple and len(row) == len(shares) and all(integer(price, 1001) for price in row)
                    for row, shares in zip(thing, web.houses)))


def wrong_prices(web):
    right = ONES(web)
    first, rest = right[0], right[1:]
    things = [list(right), (list(first),) + rest, right + (first,), rest, (first + (1,),) + rest, (first[1:],) + rest,
              (first[:-1] + (-1,),) + rest, (first[:-1] + (1001,),) + rest, (first[:-1] + (True,),) + rest,
              (first[:-1] + (False,),) + rest, (first[:-1] + ("1",),) + rest, (first[:-1] + (None,),) + rest,
              (first[:-1] + (10 ** 39,),) + rest, (first[:-1] + ((1,),),) + rest, (first[:-1] + (nested(38, tuple),),) + rest,
              (None,) + rest, (1,) * len(right), "1" * len(right), dict(enumerate(right)), right[:-1] + (nested(39, list),),
              right[:-1] + (A,), right[:-1] + ((A,) * len(right[-1]),), ((),) * len(right), right[:-1] + (b"\x01" * len(right[-1]),)]
    fits = lambda thing: is_right_prices(web, thing)
    return wrong_but(fits) + [thing for thing in things if not fits(thing)]


class Buying(unittest.TestCase):
    def check(self, web, lot, house, prices, best=None):
        price = kept(self, cheapest, web, lot, house, prices)
        self.assertIs(type(price), int)
        bought = kept(self, purchase, web, lot, house, prices)
        self.assertEqual(bought, sorted(set(bought)))
        self.assertLessEqual(set(bought), set(free_shares(web, lot)))
        self.assertEqual(price_of(bought, prices), price)
        self.assertTrue(carries_with(web, lot, house, bought))
        self.assertIs(kept(self, is_purchase, web, lot, house, prices, bought), True)
        if best is not None:
            self.assertEqual(price, best)
        return bought

    def test_plain_ones(self):
        self.assertEqual(kept(self, cheapest, A, (0,), 0, ((5, 2, 3),)), 2)
        self.assertEqual(kept(self, purchase, A, (0,), 0, ((5, 2, 3),)), [(0, 1)])
        self.assertEqual(self.check(A, (0,), 0, ((5, 3, 2),)), [(0, 2)])
        # Its own share costs the lot nothing, for it has it.
        self.assertEqual(self.check(A, (2,), 0, ((0, 4, 0),)), [(0, 0)])
        # Either the house itself, or that which holds most of it.
        self.assertEqual(self.check(K, (0,), 0, ((0, 7, 7), (0, 5, 9))), [(1, 1)])
        self.assertEqual(self.check(K, (0,), 0, ((0, 4, 7), (0, 5, 9))), [(0, 1)])
        self.assertEqual(self.check(C, (0,), 0, ((9,), (9,), (1,))), [(2, 0)])
        # A row of houses may be bought at its beginning, within, or at its end.
        self.assertEqual(self.check(CHAIN, (2,), 3, ((3,), (1, 1, 1), (8, 8, 8), (9,))), [(0, 0)])
        self.assertEqual(self.check(CHAIN, (2,), 3, ((8,), (1, 1, 1), (2, 1, 3), (9,))), [(1, 0), (2, 1)])
        self.assertEqual(self.check(CHAIN, (2,), 3, ((8,), (5, 5, 5), (4, 3, 3), (5,))), [(3, 0)])

    def test_a_house_that_is_carried_already(self):
        for web in random_webs(221, 60, 3, 4) + PLAIN[:-1]:
            for lot in all_lots(web.folk)[1:]:
                for house in plain_carried(web, lot):
                    for prices in [ONES(web), drawn_prices(random.Random(1), web, 1)]:
                        self.assertEqual(kept(self, purchase, web, lot, house, prices), [])
                        self.assertEqual(kept(self, cheapest, web, lot, house, prices), 0)

        # Far more than half of the shares is no reason to buy some of the others.
        large = Web(2, ((("f", 0),) * 12 + (("f", 1),) * 3, (("f", 1), ("h", 0), ("h", 1))))
        for house, told in [(0, []), (1, [(1, 0)])]:
            self.assertEqual(self.check(large, (0,), house, ((5,) * 15, (5, 7, 7))), told)

    def test_all_lots_of_shares(self):
        rng = random.Random(222)
        count = 0
        for web in random_webs(223, 120, 3, 3, 3) + [K, C, A, SELF]:
            if 0 < len(shares_of(web)) <= 8:
                for most in (1, 9):
                    prices = drawn_prices(rng, web, most)
                    for lot in all_lots(web.folk)[1:]:
                        house = rng.randrange(len(web.houses))
                        best, found = plain_purchases(web, lot, house, prices)
                        self.assertIn(self.check(web, lot, house, prices, best), found)
                        for many in range(4):
                            for shares in itertools.combinations(shares_of(web), many):
                                told = is_purchase(web, lot, house, prices, list(shares))
                                self.assertIs(told, list(shares) in found)
                                count += told
        self.assertGreater(count, 200)

    def test_prices_at_the_edge(self):
        self.assertEqual(len(self.check(A, (0,), 0, ((1000, 1000, 1000),))), 1)
        self.assertEqual(cheapest(A, (0,), 0, ((1000, 1000, 1000),)), 1000)
        self.assertEqual(cheapest(A, (0,), 0, ((0, 0, 0),)), 0)
        # What costs nothing may be bought in vain.
        self.assertIs(is_purchase(A, (0,), 0, ((0, 0, 0),), [(0, 1)]), True)
        self.assertIs(is_purchase(A, (0,), 0, ((0, 0, 0),), [(0, 1), (0, 2)]), True)
        self.assertIs(is_purchase(A, (0,), 0, ((0, 0, 0),), []), False)
        self.assertIs(is_purchase(A, (0, 1), 0, ((0, 0, 0),), [(0, 2)]), True)
        self.assertIs(is_purchase(A, (0, 1), 0, ((0, 0, 1),), [(0, 2)]), False)
        self.assertIs(is_purchase(A, (0, 1), 0, ((0, 0, 0),), []), True)

    def test_judged(self):
        web = Web(2, ((("f", 0), ("f", 1), ("f", 1), ("h", 1), ("h", 1)), (("f", 1),)))
        prices = ((1, 2, 2, 3, 3), (5,))
        self.assertEqual(kept(self, cheapest, web, (0,), 0, prices), 4)
        right = [(0, 1), (0, 2)]
        self.assertIs(is_purchase(web, (0,), 0, prices, right), True)
        for thing in [right[::-1], [(0, 1), (0, 1)], [(0, 1), (0, 1), (0, 2)], [(0, 0), (0, 1), (0, 2)], tuple(right),
                      [(0, 1)], [(0, 1), (0, 3)], [(1, 0)], [list(pair) for pair in right], right + [(2, 0)], right + [(0, 5)],
                      [(0, -4), (0, 2)], [(False, 1), (False, 2)], [(0, True), (0, 2)], {(0, 1): 1, (0, 2): 2}, [(0, 1), None],
                      [(0, 1, 2)], [right], right + [(1, 0)], [("0", 1), (0, 2)], [(0, 1), (0, nested(38, tuple))]]:
            self.assertIs(kept(self, is_purchase, web, (0,), 0, prices, thing), False)
        # Of the same sum, but without use.
        self.assertIs(is_purchase(web, (0,), 0, ((1, 2, 2, 4, 3), (5,)), [(0, 3)]), False)
        for thing in WRONG + [nested(40, list), [nested(39, tuple)], [(0, 1), A]]:
            self.assertIs(is_purchase(web, (0,), 0, prices, thing), False)
            if thing != [] or type(thing) is not list:
                self.assertIs(is_purchase(web, (1,), 0, prices, thing), False)
        self.assertIs(is_purchase(web, (1,), 0, prices, []), True)

    def test_ten_and_eleven_houses(self):
        rng = random.Random(224)
        ten = random_web(rng, 3, 10, 5)
        for lot in [(0,), (1, 2)]:
            for house in (0, 9):
                self.check(ten, lot, house, drawn_prices(rng, ten, 1000))
        web = samples.row_of(10)
        prices = ((7,),) + ((9,),) * 9
        self.assertEqual(purchase(spread(web, 2), (1,), 9, prices), [(0, 0)])
        eleven, many = samples.row_of(11), samples.many()
        for function in [cheapest, purchase]:
            for large in [eleven, samples.knotted(11), many, FULL]:
                self.assertEqual(error_of(function, large, (0,), 0, ONES(large)), (TooMany, {"most": 10}))
        for thing in [[], None, [(0, 0)]]:
            self.assertEqual(error_of(is_purchase, eleven, (0,), 0, ONES(eleven), thing), (TooMany, {"most": 10}))

    def test_returned_webs(self):
        wide = samples.wide()
        rng = random.Random(225)
        for lot in all_lots(3)[1:]:
            for house in range(3):
                self.check(wide, lot, house, drawn_prices(rng, wide, 1000))
        # Houses with 75 shares: from nothing more than half have to be bought.
        large = Web(3, ((("f", 0),),))
        large.houses = ((("f", 0),) * 75,)
        self.assertEqual(cheapest(large, (1,), 0, (tuple(range(75)),)), sum(range(38)))

    def test_errors(self):
        for web in [K, A, CHAIN, MIXED]:
            slots = [(NoLot, (0,), wrong_lots(web) + [()]), (NoHouse, 0, wrong_houses(web)),
                     (NoPrices, ONES(web), wrong_prices(web))]
            check_errors(self, cheapest, web, slots)
            check_errors(self, purchase, web, slots)
            check_errors(self, is_purchase, web, slots + [(None, [], [])])
        for web in [samples.row_of(11), samples.many()]:
            slots = [(NoLot, (0,), wrong_lots(web) + [()]), (NoHouse, 0, wrong_houses(web)),
                     (NoPrices, ONES(web), wrong_prices(web))]
            check_too_many(self, 10, cheapest, web, slots)
            check_too_many(self, 10, purchase, web, slots)
            check_too_many(self, 10, is_purchase, web, slots + [(None, [], [])])
        for function in [cheapest, purchase]:
            self.assertEqual(error_of(function, EMPTY, (0,), 0, ()), (NoHouse, {}))
            self.assertEqual(error_of(function, EMPTY, (), 0, ()), (NoLot, {}))
        self.assertEqual(error_of(is_purchase, EMPTY, (1,), 0, (), []), (NoHouse, {}))


def plain_fewest_sold(web, lot, house):
    """The least number of shares that, held by one more of the folk, leave the house to others."""
    for many in range(len(shares_of(web)) + 1):
        for shares in itertools.combinations(shares_of(web), many):
            if not carries_without(web, lot, house, shares):
                return many
    return None


def carries_without(web, lot, house, shares):
    """Whether a lot carries a house when some shares are held by none of it and by no house."""
    return house in plain_carried(plain_resold(web, {share: ("f", web.folk) for share in shares}, web.folk + 1), lot)


class Selling(unittest.TestCase):
    def check(self, web, lot, house):
        many = kept(self, fewest_sold, web, lot, house)
        told = kept(self, sold_out, web, lot, house)
        self.assertIs(type(many), int)
        self.assertEqual(len(told), many)
        self.assertEqual(told, sorted(set(told)))
        self.assertLessEqual(set(told), set(shares_of(web)))
        self.assertFalse(carries_without(web, lot, house, told))
        if house not in plain_carried(web, lot):
            self.assertEqual(told, [])
        else:
            self.assertGreater(many, 0)
        return many

    def test_plain_ones(self):
        self.assertEqual(self.check(A, (0, 1), 0), 1)
        self.assertEqual(self.check(A, (0, 1, 2), 0), 2)
        self.assertEqual(self.check(A, (0,), 0), 0)
        self.assertEqual(self.check(A, (), 0), 0)
        self.assertEqual(self.check(K, (0,), 0), 0)
        self.assertEqual(self.check(CHAIN, (0,), 3), 1)
        self.assertEqual(self.check(Web(1, ((("f", 0),) * 15,)), (0,), 0), 8)
        # House 2 is held by two others: it is enough to sell one share of one of these.
        web = Web(2, ((("f", 0),) * 5, (("f", 0),), (("f", 1), ("h", 0), ("h", 0), ("h", 1), ("h", 1))))
        self.assertEqual(self.check(web, (0,), 2), 1)
        self.assertEqual(sold_out(web, (0,), 2)[0][0] in (1, 2), True)

    def test_all_lots_of_shares(self):
        found = set()
        for web in random_webs(226, 120, 3, 4, 3) + [K, C, A, CHAIN, SELF, MIXED]:
            if len(shares_of(web)) <= 10:
                for lot in all_lots(web.folk):
                    for house in range(len(web.houses)):
                        many = self.check(web, lot, house)
                        self.assertEqual(many, plain_fewest_sold(web, lot, house))
                        found.add(many)
        self.assertLessEqual({0, 1, 2}, found)

    def test_drawn_webs(self):
        for web in random_webs(227, 30, 4, 6, 7):
            for lot in all_lots(web.folk):
                for house in range(len(web.houses)):
                    self.check(web, lot, house)

    def test_twelve_and_thirteen_houses(self):
        rng = random.Random(228)
        for web in [FULL, random_web(rng, 4, 12, 5, True), samples.row_of(12)]:
            for house in (0, 11):
                self.check(web, tuple(range(web.folk)), house)
        for web in [samples.row_of(13), samples.knotted(13), samples.many()]:
            for function in [fewest_sold, sold_out]:
                for lot in [(), (0,)]:
                    self.assertEqual(error_of(function, web, lot, 0), (TooMany, {"most": 12}))

    def test_returned_webs(self):
        wide = samples.wide()
        for lot in all_lots(3):
            for house in range(3):
                self.check(wide, lot, house)

    def test_errors(self):
        for web in [K, A, MIXED, samples.knotted(13, 2), samples.many()]:
            slots = [(NoLot, (0,), wrong_lots(web)), (NoHouse, 0, wrong_houses(web))]
            for function in [fewest_sold, sold_out]:
                if len(web.houses) > 12:
                    check_too_many(self, 12, function, web, slots)
                else:
                    check_errors(self, function, web, slots)
        for function in [fewest_sold, sold_out]:
            self.assertEqual(error_of(function, EMPTY, (0,), 0), (NoHouse, {}))
            self.assertEqual(error_of(function, EMPTY, [0], 0), (NoLot, {}))


class Sales(unittest.TestCase):
    def check(self, one, other):
        told = kept(self, sales, one, other)
        self.assertTrue(all(type(sale) is tuple and len(sale) == 3 for sale in told))
        web = one
        for house, giver, taker in told:
            self.assertNotEqual(giver, taker)
            web = sold(web, house, web.houses[house].index(giver), taker)
        self.assertEqual(web, other)
        # No share is sold that need not be, and the sales of a house go on in order on both sides.
        for house, shares in enumerate(one.houses):
            givers = [giver for at, giver, _ in told if at == house]
            takers = [taker for at, _, taker in told if at == house]
            fresh = other.houses[house]
            self.assertEqual(givers, [holder for holder in sorted(set(shares))
                                      for _ in range(shares.count(holder) - fresh.count(holder))])
            self.assertEqual(takers, [holder for holder in sorted(set(fresh))
                                      for _ in range(fresh.count(holder) - shares.count(holder))])
        self.assertEqual([house for house, _, _ in told], sorted(house for house, _, _ in told))
        return told

    def test_plain_ones(self):
        self.assertEqual(self.check(A, A), [])
        self.assertEqual(self.check(EMPTY, EMPTY), [])
        self.assertEqual(self.check(A, sold(A, 0, 0, ("h", 0))), [(0, ("f", 0), ("h", 0))])
        one = Web(3, ((("f", 0), ("f", 0), ("f", 1), ("h", 0), ("h", 1)), (("f", 2),)))
        other = Web(3, ((("f", 1), ("f", 2), ("f", 2), ("h", 1), ("h", 1)), (("h", 0),)))
        self.assertEqual(self.check(one, other), [(0, ("f", 0), ("f", 2)), (0, ("f", 0), ("f", 2)),
                                                  (0, ("h", 0), ("h", 1)), (1, ("f", 2), ("h", 0))])

    def test_drawn_pairs(self):
        count = 0
        for one, other in pairs(229, 60, 4, 5, 1):
            count += len(self.check(one, other))
        rng = random.Random(230)
        for web in random_webs(231, 60, 4, 5, 15) + PLAIN + [samples.wide(), samples.many(), samples.ring_of(3)]:
            other = web
            for _ in range(12):
                other = near_web(rng, other)
            count += len(self.check(web, other))
            count += len(self.check(other, web))
        self.assertGreater(count, 500)

    def test_errors(self):
        for one, other in [(A, K), (A, CHAIN), (EMPTY, SELF), (EMPTY, spread(EMPTY, 3)), (FULL, samples.many()),
                           (beside(A, A), A), (Web(2, ((("f", 0),),)), Web(3, ((("f", 0),) * 3,)))]:
            self.assertEqual(error_of(sales, one, other), (NoMatch, {}))
            self.assertEqual(error_of(sales, other, one), (NoMatch, {}))
        three = Web(3, ((("f", 0),),))
        for one, other in [(A, three), (beside(A, A), beside(A, three)), (beside(A, three), beside(three, A)),
                           (founded(A, (("f", 0),)), founded(A, (("f", 0), ("h", 0), ("h", 1))))]:
            self.assertEqual(error_of(sales, one, other), (NoShares, {}))
            self.assertEqual(error_of(sales, other, one), (NoShares, {}))


class Votes(unittest.TestCase):
    def test_plain_ones(self):
        self.assertEqual(kept(self, cheapest_votes, A, 0, (5, 2, 3)), (5, (1, 2)))
        self.assertEqual(kept(self, cheapest_votes, A, 0, (0, 2, 2)), (2, (0, 1)))
        # Who costs nothing may be among the lot: the least lot counts, not the smallest.
        self.assertEqual(kept(self, cheapest_votes, A, 0, (0, 0, 0)), (0, (0, 1)))
        self.assertEqual(kept(self, cheapest_votes, CHAIN, 0, (4, 0, 0)), (4, (0,)))
        self.assertEqual(cheapest_votes(Web(3, ((("f", 2),),)), 0, (0, 0, 1000)), (1000, (0, 1, 2)))
        self.assertIsNone(kept(self, cheapest_votes, K, 0, (7,)))
        self.assertIsNone(kept(self, cheapest_votes, SELF, 0, (0, 0)))

    def test_drawn_webs(self):
        rng = random.Random(232)
        for web in random_webs(233, 80, 4, 4) + PLAIN + [samples.wide(), samples.many()]:
            lots = {lot: plain_carried(web, lot) for lot in all_lots(web.folk)}
            for house in range(len(web.houses)):
                for most in (0, 1, 3, 1000):
                    prices = tuple(rng.randint(0, most) for _ in range(web.folk))
                    told = [(sum(prices[k] for k in lot), lot) for lot in lots if house in lots[lot]]
                    self.assertEqual(kept(self, cheapest_votes, web, house, prices), min(told, default=None))

    def test_large_webs(self):
        self.assertEqual(cheapest_votes(samples.chain_of(6), 11, (1000,)), (1000, (0,)))
        self.assertIsNone(cheapest_votes(samples.ring_of(6), 11, (1000,)))

    def test_errors(self):
        for web in [K, A, MIXED, samples.many()]:
            right = (0,) * web.folk
            fits = lambda thing: type(thing) is tuple and len(thing) == web.folk and all(integer(one, 1001) for one in thing)
            things = [list(right), right + (0,), right[1:], right[1:] + (-1,), right[1:] + (1001,), right[1:] + (True,),
                      right[1:] + ("0",), right[1:] + (None,), right[1:] + (10 ** 39,), right[1:] + (nested(39, tuple),),
                      right[1:] + (A,), "0" * web.folk, b"0" * web.folk, dict(enumerate(right)), (right,)]
            wrong = wrong_but(fits) + [thing for thing in things if not fits(thing)]
            check_errors(self, cheapest_votes, web, [(NoHouse, 0, wrong_houses(web)), (NoPrices, right, wrong)])
            self.assertIsNone(error_of(cheapest_votes, web, 0, (1000,) * web.folk))
        self.assertEqual(error_of(cheapest_votes, EMPTY, 0, (1, 1)), (NoHouse, {}))

    def test_what_was_passed_is_unchanged(self):
        prices, web, thing = ((5, 2, 3),), A, [(0, 1)]
        before = picture((prices, web, thing))
        is_purchase(web, (0,), 0, prices, thing)
        self.assertEqual(picture((prices, web, thing)), before)
        self.assertEqual(carried(web, (0,)), ())


if __name__ == "__main__":
    unittest.main()
