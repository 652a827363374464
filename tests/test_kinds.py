import itertools
import random
import unittest

from roundowned.counting import many_tables, tables
from roundowned.errors import NoFolk, NoKind, NoOrder, NoTable, TooMany
from roundowned.kinds import first_of_kind, kinds, renamed, same_kind
from roundowned.making import swapped
from roundowned.tables import table
from tests.samples import (all_lots, by_table, check_calls, error_of, every_table, integer, kept, random_webs, wrong_but,
                           wrong_folks, wrong_tables)
from tests.test_counting import wrong_kinds
from tests.test_tables import MOST, STAR


def orders(folk):
    return list(itertools.permutations(range(folk)))


def plain_renamed(told, order):
    return tuple(sorted(tuple(sorted(order.index(person) for person in lot)) for lot in told))


def wrong_orders(folk):
    things = [(), (0,) * folk, tuple(range(1, folk + 1)), tuple(range(folk + 1)), tuple(range(folk - 1)), list(range(folk)),
              (-1,) + tuple(range(1, folk)), (False,) + tuple(range(1, folk)), tuple("012345"[:folk]), "012345"[:folk],
              {k: k for k in range(folk)}, range(folk), (None,) * folk, ((0,),) * folk]
    fits = lambda thing: (type(thing) is tuple and all(integer(one, folk) for one in thing)
                          and sorted(thing) == list(range(folk)))
    return wrong_but(fits) + [thing for thing in things if not fits(thing)]


class Renamed(unittest.TestCase):
    def test_plain_ones(self):
        self.assertEqual(kept(self, renamed, 3, ((0,), (1, 2)), (2, 0, 1)), ((0, 2), (1,)))
        self.assertEqual(kept(self, renamed, 3, ((0, 1),), (0, 2, 1)), ((0, 2),))
        self.assertEqual(kept(self, renamed, 1, ((),), (0,)), ((),))
        self.assertEqual(kept(self, renamed, 6, MOST, (5, 3, 1, 4, 2, 0)), MOST)
        self.assertEqual(kept(self, renamed, 6, STAR, (1, 2, 3, 4, 5, 0)),
                         ((0, 1, 2, 3, 4), (0, 5), (1, 5), (2, 5), (3, 5), (4, 5)))

    def test_all_orders(self):
        for folk in (1, 2, 3, 4):
            for told in every_table(folk)[:: 1 if folk < 4 else 5]:
                for order in orders(folk):
                    other = kept(self, renamed, folk, told, order)
                    self.assertEqual(other, plain_renamed(told, order))
                    for lot in all_lots(folk):
                        self.assertIs(by_table(other, lot), by_table(told, tuple(sorted(order[k] for k in lot))))
                self.assertEqual(renamed(folk, told, tuple(range(folk))), told)

    def test_the_table_of_a_swapped_web(self):
        for web in random_webs(91, 40, 4, 4):
            for house in range(len(web.houses)):
                for order in orders(web.folk):
                    self.assertEqual(table(swapped(web, order), house), renamed(web.folk, table(web, house), order))

    def test_errors(self):
        for folk in (1, 2, 3, 6):
            slots = [(NoFolk, folk, wrong_folks()), (NoTable, ((0,),), wrong_tables(folk)),
                     (NoOrder, tuple(range(folk)), wrong_orders(folk))]
            check_calls(self, renamed, (), slots)


class Kinds(unittest.TestCase):
    def test_same_kind(self):
        self.assertEqual(kept(self, same_kind, 3, ((0, 1),), ((1, 2),)), (2, 0, 1))
        self.assertEqual(kept(self, same_kind, 3, ((0, 1),), ((0, 1),)), (0, 1, 2))
        self.assertIsNone(kept(self, same_kind, 3, ((0, 1),), ((0, 1), (1, 2))))
        self.assertEqual(kept(self, same_kind, 1, (), ()), (0,))
        self.assertIsNone(kept(self, same_kind, 2, (), ((),)))
        for folk in (1, 2, 3):
            for told in every_table(folk):
                for other in every_table(folk):
                    fits = [order for order in orders(folk) if plain_renamed(told, order) == other]
                    self.assertEqual(kept(self, same_kind, folk, told, other), fits[0] if fits else None)
        rng = random.Random(92)
        six = tables(6, "outright")
        for told in rng.sample(six, 6):
            other = plain_renamed(told, rng.choice(orders(6)))
            self.assertEqual(same_kind(6, told, other),
                             [order for order in orders(6) if plain_renamed(told, order) == other][0])
        self.assertIsNone(same_kind(6, STAR, MOST))

    def test_first_of_kind(self):
        self.assertEqual(kept(self, first_of_kind, 3, ((2,),)), ((0,),))
        self.assertEqual(kept(self, first_of_kind, 6, STAR), first_of_kind(6, renamed(6, STAR, (3, 1, 2, 0, 4, 5))))
        for folk in (1, 2, 3, 4):
            for told in every_table(folk):
                self.assertEqual(kept(self, first_of_kind, folk, told),
                                 min(plain_renamed(told, order) for order in orders(folk)))

    def test_kinds(self):
        self.assertEqual(kept(self, kinds, 1, "round"), [(), ((0,),)])
        self.assertEqual(kept(self, kinds, 3, "outright"), [((0,),), ((0, 1), (0, 2), (1, 2))])
        self.assertEqual([len(kinds(folk, "outright")) for folk in range(1, 7)], [1, 1, 2, 3, 7, 30])
        for folk, word in [(1, "round"), (2, "round"), (3, "round"), (4, "round"), (4, "outright"), (5, "outright")]:
            told = kept(self, kinds, folk, word)
            self.assertEqual(told, sorted({first_of_kind(folk, one) for one in tables(folk, word)}))
        for folk, word in [(5, "round"), (6, "outright")]:
            told = kinds(folk, word)
            self.assertEqual(told, sorted(set(told)))
            alike = [{plain_renamed(one, order) for order in orders(folk)} for one in told]
            self.assertEqual([min(some) for some in alike], told)
            self.assertEqual(sum(len(some) for some in alike), many_tables(folk, word))

    def test_errors(self):
        for folk in (1, 3, 6):
            folks = (NoFolk, folk, wrong_folks())
            told = (NoTable, ((0,),), wrong_tables(folk))
            check_calls(self, same_kind, (), [folks, told, told])
            check_calls(self, first_of_kind, (), [folks, told])
        check_calls(self, kinds, (), [(NoFolk, 2, wrong_folks()), (NoKind, "round", wrong_kinds())])
        self.assertEqual(error_of(kinds, 6, "round"), (TooMany, {"most": 5}))
        self.assertEqual(error_of(kinds, 6, "none"), (NoKind, {}))
        self.assertEqual(error_of(kinds, 7, "round"), (NoFolk, {}))


if __name__ == "__main__":
    unittest.main()
