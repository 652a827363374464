import random
import unittest

from roundowned.counting import tables
from roundowned.errors import NoFolk, NoPerson, NoTable
from roundowned.joining import above, both, either, set_in, turned, without
from roundowned.making import put_in
from roundowned.tables import kind, table
from roundowned.webs import Web
from tests import samples
from tests.samples import (A, C, K, SELF, all_lots, by_table, check_calls, error_of, every_table, kept, random_web,
                           wrong_folks, wrong_people, wrong_tables)
from tests.test_tables import MOST, STAR, plain_kind, rest


def table_by(folk, carries):
    """The table of the lots for which something holds, which must hold for all greater ones."""
    lots = [lot for lot in all_lots(folk) if carries(lot)]
    return tuple(lot for lot in lots if not any(set(one) < set(lot) for one in lots))


def put(lot, person, flag):
    """A lot with a person among it or not."""
    left = [one for one in lot if one != person]
    return tuple(sorted(left + [person])) if flag else tuple(left)


class Joining(unittest.TestCase):
    def check_two(self, folk, one, other):
        self.assertEqual(kept(self, both, folk, one, other),
                         table_by(folk, lambda lot: by_table(one, lot) and by_table(other, lot)))
        self.assertEqual(kept(self, either, folk, one, other),
                         table_by(folk, lambda lot: by_table(one, lot) or by_table(other, lot)))
        for person in range(folk):
            self.assertEqual(kept(self, set_in, folk, one, person, other),
                             table_by(folk, lambda lot: by_table(one, put(lot, person, by_table(other, lot)))))

    def test_plain_ones(self):
        self.assertEqual(kept(self, turned, 2, ((0, 1),)), ((0,), (1,)))
        self.assertEqual(kept(self, turned, 1, ()), ((),))
        self.assertEqual(kept(self, turned, 1, ((),)), ())
        self.assertEqual(kept(self, turned, 6, STAR), STAR)
        self.assertEqual(both(3, ((0,), (1,)), ((2,),)), ((0, 2), (1, 2)))
        self.assertEqual(either(3, ((0,), (1, 2)), ((1,),)), ((0,), (1,)))
        self.assertEqual(both(2, (), ((),)), ())
        self.assertEqual(either(2, (), ((),)), ((),))
        self.assertEqual(without(3, ((0, 1), (0, 2), (1, 2)), 1), ((0, 2),))
        self.assertEqual(set_in(3, ((0, 1),), 1, ((2,),)), ((0, 2),))
        self.assertEqual(set_in(3, ((0, 1), (0, 2), (1, 2)), 0, ((1,),)), ((1,),))
        self.assertEqual(set_in(2, ((0,),), 1, ((),)), ((0,),))

    def test_one_table(self):
        for folk in (1, 2, 3, 4):
            for told in every_table(folk):
                self.assertEqual(kept(self, turned, folk, told),
                                 table_by(folk, lambda lot: not by_table(told, rest(folk, lot))))
                self.assertEqual(turned(folk, turned(folk, told)), told)
                for person in range(folk):
                    lots = [lot for lot in all_lots(folk) if person not in lot and by_table(told, lot)]
                    self.assertEqual(kept(self, without, folk, told, person),
                                     tuple(lot for lot in lots if not any(set(one) < set(lot) for one in lots)))

    def test_two_tables(self):
        for folk in (1, 2, 3):
            for one in every_table(folk):
                for other in every_table(folk):
                    self.check_two(folk, one, other)
        rng = random.Random(81)
        six = tables(6, "outright") + [MOST, STAR[:-1], MOST[:10], (), ((),)]
        for _ in range(60):
            self.check_two(6, rng.choice(six), rng.choice(six))
            self.check_two(4, rng.choice(every_table(4)), rng.choice(every_table(4)))

    def test_outright_tables_set_in_one_another(self):
        for one in tables(4, "outright"):
            for other in tables(4, "outright"):
                self.assertEqual(kind(4, set_in(4, one, 2, other)), "outright")

    def test_the_table_of_put_in(self):
        rng = random.Random(82)
        webs = [random_web(rng, 3, rng.randint(1, 4), 5, k % 3 == 0) for k in range(60)]
        webs += [A, samples.MIXED, samples.wide(), samples.CHAIN]
        for web in webs:
            other = rng.choice(webs)
            goal, person = rng.randrange(len(other.houses)), rng.randrange(3)
            built = put_in(web, person, other, goal)
            for house in range(len(web.houses)):
                self.assertEqual(table(built, house),
                                 set_in(3, table(web, house), person, table(other, goal)))
        for web in [K, C]:
            self.assertEqual(table(put_in(web, 0, K, 1), 0), set_in(1, table(web, 0), 0, table(K, 1)))
        self.assertEqual(table(put_in(SELF, 1, SELF, 0), 0), set_in(2, table(SELF, 0), 1, table(SELF, 0)))

    def test_errors(self):
        for folk in (1, 3, 6):
            folks = (NoFolk, folk, wrong_folks())
            told = (NoTable, ((0,),), wrong_tables(folk))
            people = (NoPerson, 0, wrong_people(Web(folk, ())))
            check_calls(self, turned, (), [folks, told])
            check_calls(self, both, (), [folks, told, told])
            check_calls(self, either, (), [folks, told, told])
            check_calls(self, without, (), [folks, told, people])
            check_calls(self, set_in, (), [folks, told, people, told])


class Above(unittest.TestCase):
    def test_plain_ones(self):
        self.assertEqual(kept(self, above, 2, ((0, 1),)), [((0,),), ((1,),)])
        self.assertEqual(kept(self, above, 1, ()), [((0,),)])
        self.assertEqual(above(3, ()), tables(3, "outright"))
        self.assertEqual(above(6, STAR), [STAR])
        self.assertEqual(len(above(6, ())), 2646)

    def test_the_ninth_fact(self):
        for folk in (1, 2, 3, 4):
            for told in tables(folk, "round"):
                wide = kept(self, above, folk, told)
                self.assertEqual(wide, [one for one in tables(folk, "outright")
                                        if all(by_table(one, lot) for lot in told)])
                # All folk together carry by each outright table: the fact does not hold for the table without lots.
                self.assertEqual(table_by(folk, lambda lot: all(by_table(one, lot) for one in wide)),
                                 told or (tuple(range(folk)),))
        for told in [STAR[:-1], ((0, 1, 2), (1, 2, 3, 4)), ((5,),), MOST[:10], ((0, 1, 2, 3, 4, 5),)]:
            self.assertIn(plain_kind(6, told), ("round", "outright"))
            wide = above(6, told)
            self.assertEqual(wide, sorted(set(wide)))
            self.assertTrue(all(by_table(one, lot) for lot in told for one in wide))
            self.assertEqual(table_by(6, lambda lot: all(by_table(one, lot) for one in wide)), told)

    def test_errors(self):
        for folk in range(1, 7):
            apart = [((),)] + ([((0,), (1,))] if folk > 1 else []) + ([((0, 1), (2,))] if folk > 2 else [])
            check_calls(self, above, (), [(NoFolk, folk, wrong_folks()), (NoTable, ((0,),), wrong_tables(folk) + apart)])
        for told in every_table(4):
            error = (NoTable, {}) if plain_kind(4, told) == "none" else None
            self.assertEqual(error_of(above, 4, told), error)
        self.assertEqual(error_of(above, 6, MOST), (NoTable, {}))


if __name__ == "__main__":
    unittest.main()
