import unittest

from roundowned.carrying import carried
from roundowned.errors import NoHouse, NoLot, NoPerson
from roundowned.knots import carried_by_one, ever_hung, hung, is_knot, knot_fault, never_carried, verdict
from roundowned.meetings import changing
from roundowned.webs import Web
from tests import samples
from tests.samples import (A, C, CHAIN, EMPTY, K, MIXED, PLAIN, SELF, WRONG, all_lots, check_errors, error_of, is_lot,
                           kept, nested, random_webs, wrong_houses, wrong_lots, wrong_people)
from tests.test_carrying import half, plain_waves


def plain_carried(web, lot):
    return {house for wave in plain_waves(web, lot) for house in wave}


def others(web, lot):
    return tuple(k for k in range(web.folk) if k not in lot)


def plain_fault(web, lot, thing):
    rest = others(web, lot)
    for house in thing:
        if half(web, lot, plain_carried(web, lot), house):
            return ("lot", house)
        if half(web, rest, plain_carried(web, rest), house):
            return ("rest", house)
    return None


class Verdicts(unittest.TestCase):
    def test_plain_ones(self):
        self.assertEqual(verdict(K, (0,), 0), "hung")
        self.assertEqual(verdict(A, (0, 1), 0), "lot")
        self.assertEqual(verdict(A, (0,), 0), "rest")
        self.assertEqual(verdict(A, (), 0), "rest")
        self.assertEqual(kept(self, hung, K, (0,)), (0, 1))
        self.assertEqual(kept(self, hung, K, ()), (0, 1))
        self.assertEqual(kept(self, hung, A, (1,)), ())
        self.assertEqual(kept(self, hung, EMPTY, (1,)), ())
        self.assertEqual(kept(self, hung, MIXED, (0, 1)), ())
        self.assertEqual(kept(self, hung, MIXED, (1,)), (0, 1, 2, 3))
        self.assertEqual(kept(self, ever_hung, EMPTY), [])
        self.assertEqual(kept(self, ever_hung, A), [])
        self.assertEqual(kept(self, ever_hung, K), [((), (0, 1)), ((0,), (0, 1))])
        self.assertEqual(kept(self, ever_hung, C), [((), (0, 1, 2)), ((0,), (0, 1, 2))])
        self.assertEqual([lot for lot, houses in ever_hung(SELF)], [(), (0,), (0, 1), (1,)])
        self.assertEqual(kept(self, carried_by_one, CHAIN, 0), (0, 2, 3))
        self.assertEqual(kept(self, carried_by_one, CHAIN, 1), ())
        self.assertEqual(kept(self, never_carried, CHAIN), ())
        self.assertEqual(kept(self, never_carried, K), (0, 1))
        self.assertEqual(kept(self, never_carried, EMPTY), ())

    def test_drawn_webs(self):
        for web in random_webs(23, 60, 4, 6) + PLAIN + [samples.wide(), samples.many()]:
            told = []
            ever = set()
            for lot in all_lots(web.folk):
                mine, theirs = plain_carried(web, lot), plain_carried(web, others(web, lot))
                ever |= mine
                none = tuple(k for k in range(len(web.houses)) if k not in mine and k not in theirs)
                self.assertFalse(mine & theirs)
                self.assertEqual(kept(self, hung, web, lot), none)
                for house in range(len(web.houses)):
                    word = "lot" if house in mine else "rest" if house in theirs else "hung"
                    self.assertEqual(kept(self, verdict, web, lot, house), word)
                if none:
                    told.append((lot, none))
            self.assertEqual(kept(self, ever_hung, web), told)
            self.assertEqual(kept(self, never_carried, web),
                             tuple(k for k in range(len(web.houses)) if k not in ever))
            for person in range(web.folk):
                self.assertEqual(kept(self, carried_by_one, web, person), tuple(sorted(plain_carried(web, (person,)))))

    def test_the_first_fact(self):
        for web in random_webs(24, 80, 5, 8) + PLAIN + [samples.wide(), samples.many()]:
            for lot in all_lots(web.folk):
                self.assertFalse(set(carried(web, lot)) & set(carried(web, others(web, lot))))

    def test_the_second_fact(self):
        for web in random_webs(25, 60, 3, 6, 3) + PLAIN + [samples.wide(), samples.many()]:
            for lot in all_lots(web.folk):
                houses = hung(web, lot)
                self.assertIs(is_knot(web, lot, houses), houses != ())
                vote = tuple(k in lot for k in range(web.folk))
                for flag in (True, False):
                    boards = tuple(flag if k in houses else k in carried(web, lot) for k in range(len(web.houses)))
                    self.assertEqual(changing(web, vote, boards), ())


class Knots(unittest.TestCase):
    def test_faults(self):
        self.assertIsNone(knot_fault(K, (0,), (0, 1)))
        self.assertIsNone(knot_fault(K, (0,), (1,)))
        self.assertEqual(knot_fault(CHAIN, (0,), (3,)), ("lot", 3))
        # The first house tells the side, not the side the house.
        self.assertEqual(knot_fault(CHAIN, (0,), (1, 3)), ("rest", 1))
        self.assertEqual(knot_fault(CHAIN, (0,), (0, 1)), ("lot", 0))
        self.assertEqual(knot_fault(MIXED, (1,), (2, 3, 4)), ("rest", 4))
        self.assertEqual(knot_fault(MIXED, (0, 2), (2, 3, 4)), ("lot", 4))
        self.assertIsNone(knot_fault(MIXED, (1,), (2, 3)))
        for thing in WRONG + [[0, 1], (), (1, 0), (0, 0), (0, 2), (2,), (-1, 0), (True,), (False, 1), "01", {0: 1},
                              (0, (1,)), ((0, 1),), (0, nested(39, list)), (0, None)]:
            if not (is_lot(thing, 2) and thing != ()):
                self.assertEqual(knot_fault(K, (0,), thing), ("form",))
                self.assertIs(is_knot(K, (0,), thing), False)
                self.assertEqual(knot_fault(EMPTY, (0,), thing), ("form",))

    def test_all_lots_of_houses(self):
        webs = random_webs(26, 40, 3, 5) + [K, C, SELF, CHAIN, MIXED, samples.wide()]
        for web in webs:
            for lot in all_lots(web.folk):
                knots = []
                for houses in all_lots(len(web.houses)):
                    told = plain_fault(web, lot, houses) if houses else ("form",)
                    self.assertEqual(kept(self, knot_fault, web, lot, houses), told)
                    self.assertIs(kept(self, is_knot, web, lot, houses), told is None)
                    knots += [houses] if told is None else []
                self.assertEqual(max(knots, key=len, default=()), hung(web, lot))

    def test_errors(self):
        for web in [K, A, MIXED, samples.many()]:
            lot = (NoLot, (0,), wrong_lots(web))
            check_errors(self, verdict, web, [lot, (NoHouse, 0, wrong_houses(web))])
            check_errors(self, hung, web, [lot])
            check_errors(self, carried_by_one, web, [(NoPerson, 0, wrong_people(web))])
            for function in [is_knot, knot_fault]:
                check_errors(self, function, web, [lot, (None, (0,), [])])
                for thing in WRONG:
                    self.assertIsNone(error_of(function, web, (0,), thing))
        self.assertEqual(error_of(verdict, EMPTY, (0,), 0), (NoHouse, {}))

    def test_large_webs(self):
        web = samples.ring_of(6)
        houses = tuple(range(768))
        self.assertEqual(hung(web, (0,)), houses)
        self.assertIs(is_knot(web, (0,), houses), True)
        self.assertEqual(ever_hung(web), [((), houses), ((0,), houses)])
        self.assertEqual(never_carried(web), houses)
        self.assertEqual(verdict(samples.chain_of(6), (), 11), "rest")
        self.assertEqual(carried_by_one(samples.chain_of(6), 0), houses)
        self.assertEqual(hung(Web(6, ()), tuple(range(6))), ())


if __name__ == "__main__":
    unittest.main()
