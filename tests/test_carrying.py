import itertools
import random
import unittest

from roundowned.carrying import carried, carried_in, is_row, row, row_fault, shortest_row
from roundowned.errors import NoHouse, NoLot, TooMany
from roundowned.making import beside, founded
from roundowned.webs import Web
from tests import samples
from tests.samples import (A, C, CHAIN, EMPTY, FULL, K, MIXED, PLAIN, SELF, WRONG, all_lots, check_errors, error_of,
                           integer, kept, nested, random_web, random_webs, wrong_houses, wrong_lots)


def half(web, lot, ahead, house):
    """Whether a house has more than half of its shares with a lot and some houses."""
    with_them = sum(k in (lot if kind == "f" else ahead) for kind, k in web.houses[house])
    return with_them > len(web.houses[house]) - with_them


def is_plain_row(web, lot, houses):
    return all(half(web, lot, houses[:k], houses[k]) for k in range(len(houses)))


def all_rows(web, lot):
    """All rows, of any end, for a web of few houses."""
    return [houses for many in range(1, len(web.houses) + 1)
            for houses in itertools.permutations(range(len(web.houses)), many) if is_plain_row(web, lot, houses)]


def plain_waves(web, lot):
    waves = []
    while True:
        ahead = [house for wave in waves for house in wave]
        wave = tuple(k for k in range(len(web.houses)) if k not in ahead and half(web, lot, ahead, k))
        if not wave:
            return waves
        waves.append(wave)


class Carrying(unittest.TestCase):
    def test_plain_ones(self):
        self.assertEqual(kept(self, carried, A, (0, 1)), (0,))
        self.assertEqual(kept(self, carried, A, (2,)), ())
        self.assertEqual(kept(self, carried, K, (0,)), ())
        self.assertEqual(kept(self, carried, C, (0,)), ())
        self.assertEqual(kept(self, carried, EMPTY, (0, 1)), ())
        self.assertEqual(kept(self, carried, SELF, (1,)), ())
        self.assertEqual(kept(self, carried, CHAIN, (0,)), (0, 2, 3))
        self.assertEqual(kept(self, carried, CHAIN, (1, 2)), (1,))
        self.assertEqual(kept(self, carried, CHAIN, (0, 2)), (0, 1, 2, 3))
        self.assertEqual(kept(self, carried, MIXED, (0, 2)), (4,))
        self.assertEqual(kept(self, carried, MIXED, (0, 1)), (0, 1, 2, 3, 4))
        self.assertEqual(kept(self, carried_in, MIXED, (0, 1)), [(0, 4), (1,), (2,), (3,)])
        self.assertEqual(kept(self, carried_in, CHAIN, (0, 1)), [(0,), (1, 2), (3,)])
        self.assertEqual(kept(self, carried_in, CHAIN, (1, 2)), [(1,)])
        self.assertEqual(kept(self, carried_in, CHAIN, ()), [])
        self.assertEqual(kept(self, carried_in, EMPTY, (0,)), [])

    def test_by_all_rows(self):
        for web in random_webs(15, 60, 3, 4) + random_webs(16, 8, 2, 5, 3) + [A, K, C, CHAIN, MIXED, SELF]:
            for lot in all_lots(web.folk):
                rows = all_rows(web, lot)
                self.assertEqual(kept(self, carried, web, lot), tuple(sorted({houses[-1] for houses in rows})))
                for house in range(len(web.houses)):
                    mine = sorted((houses for houses in rows if houses[-1] == house), key=lambda one: (len(one), one))
                    self.assertEqual(kept(self, shortest_row, web, lot, house), mine[0] if mine else None)
                    told = kept(self, row, web, lot, house)
                    self.assertTrue(told in mine if mine else told is None)

    def test_by_waves(self):
        for web in random_webs(17, 40, 4, 12) + PLAIN + [samples.wide(), samples.many()]:
            for lot in all_lots(web.folk):
                waves = plain_waves(web, lot)
                self.assertEqual(kept(self, carried_in, web, lot), waves)
                self.assertEqual(kept(self, carried, web, lot), tuple(sorted(house for wave in waves for house in wave)))

    def test_rows(self):
        for web in random_webs(18, 40, 4, 12) + PLAIN + [samples.wide(), samples.many()]:
            for lot in all_lots(web.folk):
                houses = carried(web, lot)
                for house in range(len(web.houses)):
                    told = row(web, lot, house)
                    self.assertIs(told is not None, house in houses)
                    if told is not None:
                        self.assertIs(type(told), tuple)
                        self.assertEqual(told[-1], house)
                        self.assertEqual(len(set(told)), len(told))
                        self.assertTrue(is_plain_row(web, lot, told))
                        self.assertIs(is_row(web, lot, house, told), True)
                        self.assertIsNone(row_fault(web, lot, house, told))

    def test_more_who_say_yes_carry_no_fewer(self):
        for web in random_webs(19, 30, 4, 8):
            for lot in all_lots(web.folk):
                for more in all_lots(web.folk):
                    if set(lot) <= set(more):
                        self.assertLessEqual(set(carried(web, lot)), set(carried(web, more)))

    def test_errors(self):
        for web in [K, A, MIXED, samples.many()]:
            lot = (NoLot, (0,), wrong_lots(web))
            house = (NoHouse, 0, wrong_houses(web))
            check_errors(self, carried, web, [lot])
            check_errors(self, carried_in, web, [lot])
            check_errors(self, row, web, [lot, house])
            for function in [is_row, row_fault]:
                check_errors(self, function, web, [lot, house, (None, (0,), [])])
                for thing in WRONG:
                    self.assertIsNone(error_of(function, web, (0,), 0, thing))
        check_errors(self, shortest_row, MIXED, [(NoLot, (0,), wrong_lots(MIXED)), (NoHouse, 0, wrong_houses(MIXED))])
        for function in [row, shortest_row]:
            for thing in wrong_houses(EMPTY):
                self.assertEqual(error_of(function, EMPTY, (), thing), (NoHouse, {}))

    def test_too_many_for_the_shortest(self):
        web = founded(FULL, (("f", 0),))
        self.assertEqual(error_of(shortest_row, web, (0,), 12), (TooMany, {"most": 12}))
        self.assertEqual(error_of(shortest_row, web, (), 0), (TooMany, {"most": 12}))
        self.assertEqual(error_of(shortest_row, samples.many(), (0,), 0), (TooMany, {"most": 12}))
        self.assertEqual(error_of(shortest_row, web, (6,), 12), (NoLot, {}))
        self.assertEqual(error_of(shortest_row, web, (0,), 13), (NoHouse, {}))
        self.assertIsNone(error_of(shortest_row, FULL, (0,), 11))

    def test_shortest_rows_of_12_houses(self):
        held_at_once = Web(1, tuple((("f", 0),) for _ in range(11)) + (tuple(("h", k) for k in range(11)),))
        self.assertEqual(shortest_row(held_at_once, (0,), 11), (0, 1, 2, 3, 4, 5, 11))
        self.assertEqual(shortest_row(held_at_once, (0,), 10), (10,))
        self.assertIsNone(shortest_row(held_at_once, (), 11))
        chain = samples.chain_of(0)
        self.assertEqual(shortest_row(chain, (0,), 11), tuple(range(12)))
        web = Web(1, ((("f", 0), ("h", 2), ("h", 3)), (("f", 0), ("h", 0), ("h", 4)), (("h", 4),), (("h", 4),), (("f", 0),)))
        self.assertEqual(shortest_row(web, (0,), 0), (4, 2, 0))
        self.assertEqual(shortest_row(web, (0,), 1), (4, 1))
        web = Web(1, ((("h", 3),), (("h", 2),), (("f", 0),), (("f", 0),), (("h", 0), ("h", 1), ("h", 5)), (("f", 0),)))
        self.assertEqual(shortest_row(web, (0,), 4), (2, 1, 5, 4))


class Judging(unittest.TestCase):
    def test_faults(self):
        lot = (0,)
        self.assertIsNone(row_fault(CHAIN, lot, 2, (0, 2)))
        for thing in WRONG + [[0, 2], (), "02", (0, 4), (0, -1), (True,), (0, "2"), {0: 2}, (0, (2,)), ([0, 2],), (4,), 0,
                              (0, nested(39, tuple)), (0, None), (0, 2, int)]:
            if not (type(thing) is tuple and thing and all(integer(one, 4) for one in thing)):
                self.assertEqual(row_fault(CHAIN, lot, 2, thing), ("form",))
                self.assertIs(is_row(CHAIN, lot, 2, thing), False)
        self.assertEqual(row_fault(CHAIN, lot, 2, (0, 0)), ("twice", 1))
        self.assertEqual(row_fault(CHAIN, lot, 2, (1, 2, 3, 2, 1)), ("twice", 3))
        self.assertEqual(row_fault(CHAIN, lot, 2, (0,) * 10000), ("twice", 1))
        self.assertEqual(row_fault(CHAIN, lot, 2, (2, 0)), ("half", 0))
        self.assertEqual(row_fault(CHAIN, lot, 2, (0, 1, 2)), ("half", 1))
        self.assertEqual(row_fault(CHAIN, lot, 2, (0, 3, 1)), ("half", 1))
        self.assertEqual(row_fault(CHAIN, lot, 2, (0,)), ("end",))
        self.assertEqual(row_fault(CHAIN, lot, 2, (0, 2, 3)), ("end",))
        self.assertIsNone(row_fault(CHAIN, lot, 3, (0, 2, 3)))
        self.assertEqual(row_fault(CHAIN, (), 0, (0,)), ("half", 0))

    def test_drawn_things(self):
        rng = random.Random(20)
        for web in random_webs(21, 60, 3, 5) + [MIXED, samples.wide(), samples.many()]:
            many = len(web.houses)
            for lot in all_lots(web.folk) if many else []:
                for _ in range(15):
                    thing = tuple(rng.randrange(many) for _ in range(rng.randint(1, 4)))
                    house = rng.choice([thing[-1], rng.randrange(many)])
                    told = self.plain_fault(web, lot, house, thing)
                    self.assertEqual(kept(self, row_fault, web, lot, house, thing), told)
                    self.assertIs(kept(self, is_row, web, lot, house, thing), told is None)
                    self.assertEqual(row_fault(web, lot, house, list(thing)), ("form",))

    def plain_fault(self, web, lot, house, thing):
        for place in range(len(thing)):
            if thing[place] in thing[:place]:
                return ("twice", place)
        for place in range(len(thing)):
            if not half(web, lot, thing[:place], thing[place]):
                return ("half", place)
        return None if thing[-1] == house else ("end",)

    def test_large_webs(self):
        web = samples.chain_of(6)
        order = row(web, (0,), 11)
        self.assertEqual(len(order), 768)
        self.assertIs(is_row(web, (0,), 11, order), True)
        self.assertEqual(carried(web, (0,)), tuple(range(768)))
        self.assertEqual(carried(web, ()), ())
        self.assertEqual(len(carried_in(web, (0,))), 768)
        self.assertEqual(carried(samples.ring_of(6), (0,)), ())
        self.assertEqual(carried(beside(web, samples.ring_of(2)), (0,)), tuple(range(768)))


class Large(unittest.TestCase):
    def test_rows_of_drawn_webs_of_12_houses(self):
        rng = random.Random(22)
        for _ in range(12):
            web = random_web(rng, 3, 12, 5)
            for lot in [(0, 1), (0, 1, 2), (1, 2)]:
                for house in range(12):
                    told = shortest_row(web, lot, house)
                    self.assertIs(told is None, house not in carried(web, lot))
                    if told is not None:
                        self.assertIs(is_row(web, lot, house, told), True)
                        self.assertLessEqual(len(told), len(row(web, lot, house)))
                        for at in range(len(told) - 1):
                            self.assertIs(is_row(web, lot, house, told[:at] + told[at + 1:]), False)


if __name__ == "__main__":
    unittest.main()
