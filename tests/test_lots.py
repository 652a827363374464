import fractions
import itertools
import unittest

from roundowned.errors import NoHouse, NoLot
from roundowned.lots import (barring_lots, fewest_added, fewest_lost, least_lots, needed, needless, says_most, turns)
from roundowned.making import spread
from roundowned.webs import Web
from tests import samples
from tests.samples import (A, C, CHAIN, EMPTY, FULL, K, MIXED, PLAIN, SELF, all_lots, check_errors, error_of, kept,
                           random_webs, wrong_houses, wrong_lots)
from tests.test_knots import plain_carried

HEAVY = Web(4, ((("f", 0), ("f", 0), ("f", 1), ("f", 2), ("f", 3)),))


def least(lots):
    return sorted(lot for lot in lots if not any(set(other) < set(lot) for other in lots))


def carrying(web):
    """For each house the lots that carry it."""
    told = {lot: plain_carried(web, lot) for lot in all_lots(web.folk)}
    return [[lot for lot in told if house in told[lot]] for house in range(len(web.houses))]


def plain_turns(folk, lots):
    return tuple(len([lot for lot in lots if k in lot and tuple(one for one in lot if one != k) not in lots])
                 for k in range(folk))


def plain_says_most(folk, lots):
    many = [0] * folk
    orders = list(itertools.permutations(range(folk)))
    for order in orders:
        for at in range(folk + 1):
            if tuple(sorted(order[:at])) in lots:
                many[order[at - 1]] += 1
                break
    shares = [fractions.Fraction(one, len(orders)) for one in many]
    return tuple((one.numerator, one.denominator) for one in shares)


def first(lots):
    """The least of the smallest lots, None if there is none."""
    return min(lots, key=lambda lot: (len(lot), lot), default=None)


class Lots(unittest.TestCase):
    def test_plain_ones(self):
        self.assertEqual(kept(self, least_lots, A, 0), [(0, 1), (0, 2), (1, 2)])
        self.assertEqual(kept(self, barring_lots, A, 0), [(0, 1), (0, 2), (1, 2)])
        self.assertEqual(kept(self, least_lots, HEAVY, 0), [(0, 1), (0, 2), (0, 3), (1, 2, 3)])
        self.assertEqual(kept(self, turns, A, 0), (2, 2, 2))
        self.assertEqual(kept(self, turns, HEAVY, 0), (6, 2, 2, 2))
        self.assertEqual(kept(self, says_most, A, 0), ((1, 3), (1, 3), (1, 3)))
        self.assertEqual(kept(self, says_most, HEAVY, 0), ((1, 2), (1, 6), (1, 6), (1, 6)))
        self.assertEqual(kept(self, needless, A, 0), ())
        self.assertEqual(kept(self, needed, A, 0), ())
        self.assertEqual(kept(self, least_lots, CHAIN, 0), [(0,)])
        self.assertEqual(kept(self, needless, CHAIN, 0), (1, 2))
        self.assertEqual(kept(self, needed, CHAIN, 0), (0,))
        self.assertEqual(kept(self, barring_lots, CHAIN, 0), [(0,)])
        self.assertEqual(kept(self, says_most, CHAIN, 0), ((1, 1), (0, 1), (0, 1)))
        self.assertEqual(kept(self, turns, CHAIN, 0), (4, 0, 0))

    def test_a_house_that_no_lot_carries(self):
        for web, house in [(K, 0), (C, 2), (SELF, 0)]:
            everybody = tuple(range(web.folk))
            self.assertEqual(kept(self, least_lots, web, house), [])
            self.assertEqual(kept(self, barring_lots, web, house), [()])
            self.assertEqual(kept(self, needless, web, house), everybody)
            self.assertEqual(kept(self, needed, web, house), ())
            self.assertEqual(kept(self, turns, web, house), (0,) * web.folk)
            self.assertEqual(kept(self, says_most, web, house), ((0, 1),) * web.folk)
            for lot in all_lots(web.folk):
                self.assertIsNone(kept(self, fewest_added, web, lot, house))
                self.assertEqual(kept(self, fewest_lost, web, lot, house), ())

    def test_fewest_added_and_lost(self):
        self.assertEqual(fewest_added(A, (), 0), (0, 1))
        self.assertEqual(fewest_added(A, (0,), 0), (1,))
        self.assertEqual(fewest_added(A, (1, 2), 0), ())
        self.assertEqual(fewest_added(HEAVY, (2, 3), 0), (0,))
        self.assertEqual(fewest_added(HEAVY, (0,), 0), (1,))
        self.assertEqual(fewest_lost(A, (0, 1, 2), 0), (0, 1))
        self.assertEqual(fewest_lost(A, (0, 2), 0), (0,))
        self.assertEqual(fewest_lost(A, (0,), 0), ())
        self.assertEqual(fewest_lost(HEAVY, (0, 1, 2), 0), (0,))
        self.assertEqual(fewest_lost(HEAVY, (0, 1, 2, 3), 0), (0, 1))

    def check_house(self, web, house, lots):
        folk = range(web.folk)
        smallest = least(lots)
        self.assertEqual(kept(self, least_lots, web, house), smallest)
        bars = [lot for lot in all_lots(web.folk) if all(set(lot) & set(other) for other in lots)]
        self.assertEqual(kept(self, barring_lots, web, house), least(bars))
        self.assertEqual(kept(self, needless, web, house), tuple(k for k in folk if all(k not in lot for lot in smallest)))
        together = tuple(k for k in folk if all(k in lot for lot in smallest)) if smallest else ()
        self.assertEqual(kept(self, needed, web, house), together)
        for lot in all_lots(web.folk):
            added = [part for part in all_lots(web.folk)
                     if not set(part) & set(lot) and tuple(sorted(part + lot)) in lots]
            self.assertEqual(kept(self, fewest_added, web, lot, house), first(added))
            lost = [part for part in all_lots(web.folk)
                    if set(part) <= set(lot) and tuple(k for k in lot if k not in part) not in lots]
            self.assertEqual(kept(self, fewest_lost, web, lot, house), first(lost))

    def test_drawn_webs(self):
        for web in random_webs(27, 40, 4, 4) + PLAIN[:-1] + [samples.wide(), samples.many()]:
            for house, lots in enumerate(carrying(web)):
                self.check_house(web, house, lots)

    def test_turns_and_fractions(self):
        for web in random_webs(28, 60, 5, 4) + PLAIN[:-1] + [samples.wide(), samples.many(), spread(HEAVY, 6)]:
            for house, lots in enumerate(carrying(web)):
                self.assertEqual(kept(self, turns, web, house), plain_turns(web.folk, lots))
                told = kept(self, says_most, web, house)
                self.assertEqual(told, plain_says_most(web.folk, lots))
                # The third fact.
                total = sum(fractions.Fraction(top, bottom) for top, bottom in told)
                self.assertEqual(total, 1 if lots else 0)
                self.assertTrue(all(type(one) is tuple and type(one[0]) is int for one in told))

    def test_all_folk_and_houses(self):
        for house, lots in enumerate(carrying(FULL)):
            self.assertEqual(least_lots(FULL, house), least(lots))
            self.assertEqual(turns(FULL, house), plain_turns(6, lots))

    def test_errors(self):
        for web in [K, A, MIXED, samples.many()]:
            house = (NoHouse, 0, wrong_houses(web))
            for function in [least_lots, barring_lots, needless, needed, turns, says_most]:
                check_errors(self, function, web, [house])
            for function in [fewest_added, fewest_lost]:
                check_errors(self, function, web, [(NoLot, (0,), wrong_lots(web)), house])
        for function in [least_lots, barring_lots, needless, needed, turns, says_most]:
            self.assertEqual(error_of(function, EMPTY, 0), (NoHouse, {}))
        for function in [fewest_added, fewest_lost]:
            self.assertEqual(error_of(function, EMPTY, (0,), 0), (NoHouse, {}))

    def test_large_webs(self):
        web = samples.chain_of(6)
        self.assertEqual(least_lots(web, 11), [(0,)])
        self.assertEqual(barring_lots(web, 11), [(0,)])
        self.assertEqual(says_most(web, 11), ((1, 1),))
        self.assertEqual(fewest_added(web, (), 11), (0,))
        self.assertEqual(fewest_lost(samples.ring_of(6), (0,), 11), ())


if __name__ == "__main__":
    unittest.main()
