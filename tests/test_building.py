import itertools
import random
import unittest

from roundowned.building import fewest_houses, is_made, made, made_all, refuted, tripled
from roundowned.counting import tables
from roundowned.errors import NoFolk, NoHouse, NoMatch, NoTable, NoTables, TooMany
from roundowned.making import beside, founded, put_in
from roundowned.rings import is_ringless
from roundowned.tables import kind, table
from roundowned.webs import Web
from tests import samples
from tests.samples import (A, C, CHAIN, EMPTY, FULL, K, MIXED, PLAIN, SELF, WRONG, all_lots, by_table, check_calls,
                           error_of, every_table, is_right_table, kept, nested, random_web, random_webs, wrong_but,
                           wrong_folks, wrong_tables)
from tests.test_knots import plain_carried
from tests.test_tables import MOST, STAR, plain_kind


def is_web(case, web, sizes):
    """See that a thing is a right web, with houses of these sizes."""
    case.assertIsInstance(web, Web)
    case.assertIs(type(web.houses), tuple)
    for shares in web.houses:
        case.assertIs(type(shares), tuple)
        case.assertIn(len(shares), sizes)
        case.assertEqual(list(shares), sorted(shares))
        for holder in shares:
            case.assertIs(type(holder), tuple)
            case.assertIs(type(holder[1]), int)
            case.assertTrue(0 <= holder[1] < {"f": web.folk, "h": len(web.houses)}[holder[0]])


def last_table(web, back=1):
    """The table of a house that stands so far behind, found by the plainest way."""
    lots = [lot for lot in all_lots(web.folk) if len(web.houses) - back in plain_carried(web, lot)]
    return tuple(lot for lot in lots if not any(set(one) < set(lot) for one in lots))


def with_unlike(many):
    """A web in which a house has so many unlike holders."""
    houses = [(("f", 0),), (("f", 1),), (("f", 2),), (("f", 0), ("f", 1), ("f", 2)), (("h", 5),), (("h", 3),)]
    holders = sorted([("f", k) for k in range(3)] + [("h", k) for k in range(6)])[:many]
    shares = holders if many % 2 else holders + [holders[0]]
    return Web(3, tuple(houses) + (tuple(sorted(shares)),))


class Tripled(unittest.TestCase):
    def check(self, web):
        told = kept(self, tripled, web)
        is_web(self, told, [3])
        self.assertEqual(told.folk, web.folk)
        self.assertGreaterEqual(len(told.houses), len(web.houses))
        for house in range(len(web.houses)):
            self.assertEqual(table(told, house), table(web, house))
        self.assertTrue(is_ringless(told) or not is_ringless(web))
        return told

    def test_plain_ones(self):
        for web in PLAIN + [samples.wide(), samples.many(), samples.ring_of(2), samples.chain_of(2)]:
            self.check(web)
        self.assertEqual(tripled(EMPTY), EMPTY)
        self.check(Web(1, ((("f", 0),),)))
        self.check(Web(6, (tuple(("f", k // 2) for k in range(9)),)))
        self.check(Web(6, (tuple(sorted(("f", k % 6) for k in range(15))),)))
        self.check(Web(5, (tuple(("f", k) for k in range(5)), (("h", 0),), (("h", 1),) * 5)))

    def test_drawn_webs(self):
        rng = random.Random(101)
        for k in range(120):
            web = random_web(rng, rng.randint(1, 6), rng.randint(1, 4), rng.choice([3, 5, 7, 15]), k % 2 == 0)
            if max(len(set(shares)) for shares in web.houses) <= 8:
                self.check(web)

    def test_eight_and_nine_unlike_holders(self):
        for many in (3, 5, 7, 8):
            self.check(with_unlike(many))
        self.assertEqual(error_of(tripled, with_unlike(9)), (TooMany, {"most": 8}))
        self.assertEqual(error_of(tripled, beside(A, with_unlike(9))), (TooMany, {"most": 8}))
        self.assertEqual(error_of(tripled, beside(with_unlike(9), A)), (TooMany, {"most": 8}))
        eight = Web(6, (tuple(("f", k) for k in range(6)) + (("h", 1), ("h", 2), ("h", 2)), (("f", 0),),
                        (("f", 3), ("f", 4), ("f", 5))))
        self.check(eight)
        round_about = Web(6, (tuple(("f", k) for k in range(6)) + (("h", 0), ("h", 1), ("h", 1)), (("f", 0), ("h", 0), ("h", 1))))
        self.check(round_about)
        large = put_in(eight, 0, eight, 0)
        self.check(put_in(large, 3, large, 2))


class Made(unittest.TestCase):
    def check(self, folk, told):
        web = kept(self, made, folk, told)
        self.assertEqual(web.folk, folk)
        is_web(self, web, [1, 3])
        self.assertEqual(last_table(web), told)
        self.assertIs(kept(self, is_made, folk, told, web), True)
        self.assertIsNone(refuted(folk, told, web))
        if plain_kind(folk, told) == "outright":
            self.assertIs(is_ringless(web), True)

    def test_the_main_fact(self):
        for folk in (1, 2, 3, 4):
            for told in every_table(folk):
                if plain_kind(folk, told) == "none":
                    self.assertIsNone(kept(self, made, folk, told))
                else:
                    self.check(folk, told)

    def test_five_and_six_folk(self):
        for folk, word, step in [(5, "outright", 1), (5, "round", 29), (6, "outright", 41)]:
            for told in tables(folk, word)[::step]:
                self.check(folk, told)
        for told in tables(6, "outright")[::149]:
            for at in range(len(told)):
                self.check(6, told[:at] + told[at + 1:])
        for told in [(), STAR, ((0, 1, 2, 3, 4, 5),), ((5,),), MOST[:10]]:
            self.check(6, told)
        for told in [((),), MOST, tuple((k,) for k in range(6)), ((0,), (1, 2))]:
            self.assertIsNone(made(6, told))

    def test_errors(self):
        for folk in (1, 3, 6):
            check_calls(self, made, (), [(NoFolk, folk, wrong_folks()), (NoTable, ((0,),), wrong_tables(folk))])


class MadeAll(unittest.TestCase):
    def check(self, folk, wanted):
        web = kept(self, made_all, folk, wanted)
        self.assertEqual(web.folk, folk)
        is_web(self, web, [1, 3])
        self.assertEqual([last_table(web, len(wanted) - at) for at in range(len(wanted))], list(wanted))
        if all(plain_kind(folk, told) == "outright" for told in wanted):
            self.assertIs(is_ringless(web), True)

    def test_some_tables(self):
        self.check(1, [()])
        self.check(1, [((0,),)])
        self.check(1, [(), ((0,),), (), ((0,),), (), ()])
        self.check(3, (((0,),), ((0, 1), (0, 2), (1, 2)), ((2,),)))
        self.check(3, [((0, 1), (0, 2), (1, 2))] * 6)
        rng = random.Random(102)
        for folk in (2, 3, 4, 5):
            for many in range(1, 7):
                for word in ["outright", "round"]:
                    wanted = [rng.choice(tables(folk, word)) for _ in range(many)]
                    self.check(folk, wanted)
                    self.check(folk, tuple(wanted))
        self.check(6, rng.sample(tables(6, "outright"), 6))
        self.check(6, [STAR[:-1], STAR, MOST[:10], (), ((5,),), ((1, 3, 5),)])

    def test_one_that_is_not_round(self):
        for wrong in [((),), ((0,), (1,))]:
            for at in range(3):
                wanted = [((0,),), ((0, 1),), ()]
                wanted[at] = wrong
                self.assertIsNone(kept(self, made_all, 2, wanted))
                self.assertIsNone(kept(self, made_all, 2, tuple(wanted)))
        self.assertIsNone(made_all(6, [MOST]))

    def test_errors(self):
        one = ((0,),)
        for folk in (1, 3, 6):
            fits = lambda thing: (type(thing) in (list, tuple) and 1 <= len(thing) <= 6
                                  and all(is_right_table(told, folk) for told in thing))
            things = [[], (), [one] * 7, (one,) * 7, [one, None], [None], (one, [(0,)]), [[(0,)]], {one: 1}, "0", [one, ((0, 0),)],
                      [((folk,),)], [one, nested(39, tuple)], nested(40, list), [one, ((0,), (0, folk - 1))], one, (0,), ((),)]
            wrong = wrong_but(fits) + [thing for thing in things if not fits(thing)]
            check_calls(self, made_all, (), [(NoFolk, folk, wrong_folks()), (NoTables, [one], wrong)])
            for told in wrong_tables(folk):
                self.assertEqual(error_of(made_all, folk, [one, told]), (NoTables, {}))
                self.assertEqual(error_of(made_all, folk, (told, one)), (NoTables, {}))
        self.assertEqual(error_of(made_all, 2, [((),)] * 7), (NoTables, {}))


class Judged(unittest.TestCase):
    def test_is_made_and_refuted(self):
        self.assertIs(is_made(2, ((0, 1),), Web(2, ((("f", 0), ("f", 1), ("h", 0)),))), True)
        self.assertEqual(refuted(2, ((0,),), Web(2, ((("f", 0), ("f", 1), ("h", 0)),))), (0,))
        self.assertEqual(refuted(2, ((0,),), Web(2, ((("f", 1),),))), (0,))
        self.assertEqual(refuted(2, ((),), Web(2, ((("f", 1),),))), ())
        self.assertEqual(refuted(2, (), Web(2, ((("f", 1),),))), (0, 1))
        self.assertIsNone(refuted(1, (), K))
        # Just the last house counts.
        self.assertIs(is_made(3, ((0, 1), (0, 2), (1, 2)), A), True)
        self.assertIs(is_made(3, ((0, 1), (0, 2), (1, 2)), founded(A, (("f", 0),))), False)
        self.assertIs(is_made(3, ((0,),), founded(A, (("f", 0),))), True)
        self.assertIs(is_made(2, (), EMPTY), False)
        self.assertIs(is_made(2, (), C), False)
        self.assertIs(is_made(1, (), C), True)
        for web in random_webs(103, 80, 3, 4) + [K, A, C, SELF, CHAIN, MIXED, samples.wide(), samples.many()]:
            if web.houses:
                house = table(web, len(web.houses) - 1)
                for told in every_table(web.folk):
                    unlike = [lot for lot in all_lots(web.folk) if by_table(told, lot) != by_table(house, lot)]
                    self.assertEqual(kept(self, refuted, web.folk, told, web), unlike[0] if unlike else None)
                    self.assertIs(kept(self, is_made, web.folk, told, web), told == house)
                for folk in range(1, 7):
                    self.assertIs(is_made(folk, house, web) if folk >= web.folk else folk == web.folk, folk == web.folk)

    def test_things_that_are_no_webs(self):
        for thing in WRONG + [(2, ()), [A], A.houses, nested(40, tuple), "web", {0: A}]:
            for folk in (1, 2, 3):
                told = is_made(folk, ((0,),), thing)
                self.assertIs(told, False)

    def test_errors(self):
        for folk in (1, 3, 6):
            slots = [(NoFolk, folk, wrong_folks()), (NoTable, ((0,),), wrong_tables(folk))]
            check_calls(self, is_made, (), slots + [(None, A, [])])
            web = Web(folk, ((("f", 0),),))
            for error, right, wrong in slots:
                for thing in wrong:
                    told = (thing, ((0,),)) if error == NoFolk else (folk, thing)
                    for other in [web, Web(folk, ()), Web(folk % 6 + 1, ())]:
                        self.assertEqual(error_of(refuted, *told, other), (error, {}))
            self.assertIsNone(error_of(refuted, folk, ((0,),), web))
        self.assertEqual(error_of(refuted, 2, ((0,),), A), (NoMatch, {}))
        self.assertEqual(error_of(refuted, 3, ((0,),), EMPTY), (NoMatch, {}))
        self.assertEqual(error_of(refuted, 2, ((0,),), EMPTY), (NoHouse, {}))


class Fewest(unittest.TestCase):
    def plain_tables(self, folk, many):
        """The tables of the last houses of all webs of so many houses of three shares."""
        holders = [("f", k) for k in range(folk)] + [("h", k) for k in range(many)]
        threes = list(itertools.combinations_with_replacement(holders, 3))
        return {last_table(Web(folk, houses)) for houses in itertools.product(threes, repeat=many)}

    def test_all_tables(self):
        self.assertEqual(fewest_houses(3, ((0, 1), (0, 2), (1, 2))), 1)
        self.assertEqual(fewest_houses(3, ((0, 1), (0, 2))), 2)
        self.assertEqual(fewest_houses(2, ((0, 1),)), 1)
        self.assertEqual(fewest_houses(1, ()), 1)
        self.assertIsNone(fewest_houses(2, ((0,), (1,))))
        found = set()
        for folk in (1, 2, 3):
            one, two = self.plain_tables(folk, 1), self.plain_tables(folk, 2)
            for told in every_table(folk):
                number = 1 if told in one else 2 if told in two else None
                found.add(number)
                self.assertEqual(kept(self, fewest_houses, folk, told), number)
                if kind(folk, told) == "none":
                    self.assertIsNone(number)
        self.assertEqual(found, {1, 2, None})

    def test_errors(self):
        for folk in (1, 2, 3):
            check_calls(self, fewest_houses, (), [(NoFolk, folk, wrong_folks()), (NoTable, ((0,),), wrong_tables(folk))])
        for folk in (4, 5, 6):
            for told in [(), ((),), ((0,),)]:
                self.assertEqual(error_of(fewest_houses, folk, told), (TooMany, {"most": 3}))
            for told in wrong_tables(folk):
                self.assertEqual(error_of(fewest_houses, folk, told), (NoTable, {}))
        self.assertEqual(error_of(fewest_houses, 7, ()), (NoFolk, {}))
        self.assertEqual(len(FULL.houses), 12)


if __name__ == "__main__":
    unittest.main()
