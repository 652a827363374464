import unittest

from roundowned.errors import NoFolk, NoHouse, NoLot, NoTable
from roundowned.lots import least_lots
from roundowned.rings import is_ringless
from roundowned.tables import apart, carries, is_table, kind, open_lot, table
from roundowned.webs import Web
from tests import samples
from tests.samples import (A, C, CHAIN, EMPTY, FULL, K, MIXED, PLAIN, SELF, WRONG, all_lots, by_table, check_calls,
                           check_errors, error_of, every_table, is_right_table, kept, nested, random_webs, wrong_folks,
                           wrong_houses, wrong_lots, wrong_tables)

SIX = tuple(sorted((a, b, c) for a in range(6) for b in range(a) for c in range(b)))
MOST = tuple(sorted(lot for lot in all_lots(6) if len(lot) == 3))
STAR = ((0, 1), (0, 2), (0, 3), (0, 4), (0, 5), (1, 2, 3, 4, 5))


def disjoint(one, other):
    return not set(one) & set(other)


def rest(folk, lot):
    return tuple(k for k in range(folk) if k not in lot)


def plain_kind(folk, told):
    lots = [lot for lot in all_lots(folk) if by_table(told, lot)]
    if any(disjoint(one, other) for one in lots for other in lots):
        return "none"
    return "outright" if all(lot in lots or rest(folk, lot) in lots for lot in all_lots(folk)) else "round"


class Tables(unittest.TestCase):
    def test_is_table(self):
        for told in [(), ((),), ((0,),), ((2,),), ((0, 1), (0, 2), (1, 2)), ((0,), (1,), (2,)), ((0, 1), (2,))]:
            self.assertIs(kept(self, is_table, 3, told), True)
        self.assertIs(is_table(6, MOST), True)
        self.assertIs(is_table(6, STAR), True)
        self.assertIs(is_table(5, STAR), False)
        self.assertIs(is_table(6, SIX), False)
        for folk in range(1, 7):
            for thing in wrong_tables(folk):
                self.assertFalse(is_right_table(thing, folk))
                self.assertIs(kept(self, is_table, folk, thing), False)
            for thing in WRONG + [((0,), nested(39, tuple)), (nested(39, list),), ((0,),) * 3, tuple((k,) for k in range(7))]:
                self.assertIs(is_table(folk, thing), is_right_table(thing, folk))
        for thing in wrong_folks():
            for told in [(), None, nested(40, tuple)]:
                self.assertEqual(error_of(is_table, thing, told), (NoFolk, {}))
        self.assertIs(is_table(4, tuple([(k,) for k in range(4)])), True)

    def test_how_many_there_are(self):
        self.assertEqual([len(every_table(folk)) for folk in (1, 2, 3, 4)], [3, 6, 20, 168])
        for told in every_table(4):
            self.assertIs(is_table(4, told), True)
            if len(told) > 1:
                self.assertIs(is_table(4, told[::-1]), False)
                self.assertIs(is_table(4, list(told)), False)

    def test_table_of_a_house(self):
        self.assertEqual(kept(self, table, A, 0), ((0, 1), (0, 2), (1, 2)))
        self.assertEqual(kept(self, table, K, 0), ())
        self.assertEqual(kept(self, table, CHAIN, 2), ((0,),))
        for web in random_webs(71, 60, 4, 6) + PLAIN + [samples.wide(), samples.many()]:
            for house in range(len(web.houses)):
                told = kept(self, table, web, house)
                self.assertIs(type(told), tuple)
                self.assertEqual(list(told), least_lots(web, house))
                self.assertIs(is_table(web.folk, told), True)
            if web.houses:
                check_errors(self, table, web, [(NoHouse, 0, wrong_houses(web))])
        self.assertEqual(error_of(table, EMPTY, 0), (NoHouse, {}))

    def test_the_main_fact_for_the_houses_of_a_web(self):
        found = set()
        for web in random_webs(72, 150, 4, 5) + [K, C, SELF, CHAIN, MIXED, samples.wide()]:
            for house in range(len(web.houses)):
                word = kind(web.folk, table(web, house))
                found.add((word, is_ringless(web)))
                self.assertIn(word, ["outright"] if is_ringless(web) else ["outright", "round"])
        self.assertEqual(len(found), 3)

    def test_carries(self):
        for folk in (1, 2, 3):
            for told in every_table(folk):
                for lot in all_lots(folk):
                    self.assertIs(kept(self, carries, folk, told, lot), by_table(told, lot))
        self.assertIs(carries(2, (), (0, 1)), False)
        self.assertIs(carries(2, ((),), ()), True)
        self.assertIs(carries(6, MOST, (0, 5)), False)
        self.assertIs(carries(6, MOST, (0, 2, 5)), True)

    def test_kinds(self):
        self.assertEqual(kind(3, ((0, 1), (0, 2), (1, 2))), "outright")
        self.assertEqual(kind(2, ((0, 1),)), "round")
        self.assertEqual(kind(2, ((0,), (1,))), "none")
        self.assertEqual(kind(1, ()), "round")
        self.assertEqual(kind(1, ((),)), "none")
        self.assertEqual(kind(6, MOST), "none")
        self.assertEqual(kind(6, STAR), "outright")
        self.assertEqual(kind(6, STAR[:-1]), "round")
        self.assertEqual(apart(6, MOST), ((0, 1, 2), (3, 4, 5)))
        self.assertEqual(apart(1, ((),)), ((), ()))
        self.assertIsNone(apart(1, ()))
        self.assertEqual(open_lot(1, ()), ())
        self.assertEqual(open_lot(2, ((0, 1),)), (0,))
        self.assertIsNone(open_lot(1, ((),)))
        self.assertIsNone(open_lot(6, MOST))
        self.assertIsNone(open_lot(6, STAR))
        self.assertEqual(open_lot(6, STAR[:-1]), (0,))
        for folk in (1, 2, 3, 4):
            for told in every_table(folk):
                pairs = sorted((one, other) for one in told for other in told if one <= other and disjoint(one, other))
                lots = [lot for lot in all_lots(folk) if not by_table(told, lot) and not by_table(told, rest(folk, lot))]
                self.assertEqual(kept(self, apart, folk, told), pairs[0] if pairs else None)
                self.assertEqual(kept(self, open_lot, folk, told), lots[0] if lots else None)
                self.assertEqual(kept(self, kind, folk, told), plain_kind(folk, told))

    def test_errors(self):
        for folk in range(1, 7):
            slots = [(NoFolk, folk, wrong_folks()), (NoTable, ((0,),), wrong_tables(folk))]
            for function in [kind, apart, open_lot]:
                check_calls(self, function, (), slots)
                self.assertIsNone(error_of(function, folk, ()))
                self.assertIsNone(error_of(function, folk, ((),)))
            check_calls(self, carries, (), slots + [(NoLot, (), wrong_lots(Web(folk, ())))])
        self.assertEqual(error_of(carries, 1, ((0,),), (1,)), (NoLot, {}))
        self.assertEqual(error_of(carries, 7, ((0,),), (0,)), (NoFolk, {}))
        self.assertEqual(error_of(kind, 0, ()), (NoFolk, {}))
        self.assertEqual(len(FULL.houses), 12)


if __name__ == "__main__":
    unittest.main()
