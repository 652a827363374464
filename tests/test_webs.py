import copy
import unittest

from roundowned.errors import BadWeb, NoHolder, NoHouse
from roundowned.making import beside, founded
from roundowned.webs import Web, held, holdings, most_held
from tests import samples
from tests.samples import A, C, EMPTY, FULL, K, MIXED, PLAIN, WRONG, error_of, integer, kept, nested, wrong_but

F = ("f", 0)


def is_holder(web, thing):
    return type(thing) is tuple and len(thing) == 2 and type(thing[0]) is str and thing[0] in ("f", "h") and (
        integer(thing[1], web.folk if thing[0] == "f" else len(web.houses)))


class Constructing(unittest.TestCase):
    def bad(self, part, folk, houses):
        told = error_of(Web, folk, houses)
        self.assertEqual(told, (BadWeb, {"part": part}))
        self.assertIs(type(told[1]["part"]), type(part))

    def test_attributes(self):
        houses = ((F, ("f", 1), ("h", 0)),)
        web = Web(2, houses)
        self.assertEqual(web.folk, 2)
        self.assertIs(type(web.folk), int)
        self.assertEqual(web.houses, houses)
        self.assertIs(type(web.houses), tuple)
        self.assertEqual(vars(web), {"folk": 2, "houses": houses})

    def test_bounds_that_hold(self):
        for folk in range(1, 7):
            self.assertEqual(Web(folk, ()).folk, folk)
        for many in range(13):
            self.assertEqual(len(Web(1, ((F,),) * many).houses), many)
        for many in range(1, 16, 2):
            self.assertEqual(len(Web(1, ((F,) * many,)).houses[0]), many)
        self.assertEqual(Web(6, ((("f", 5),),)).houses, ((("f", 5),),))
        self.assertEqual(len(FULL.houses), 12)

    def test_folk(self):
        for folk in [0, 7, -1, 10 ** 39] + wrong_but(lambda thing: False):
            self.bad("folk", folk, ())
        self.bad("folk", (1,), ())
        self.bad("folk", "1", ())

    def test_houses(self):
        for thing in wrong_but(lambda thing: type(thing) is tuple and len(thing) <= 12):
            self.bad("houses", 1, thing)
        self.bad("houses", 1, [(F,)])
        self.bad("houses", 1, ((F,),) * 13)
        self.bad("houses", 1, {0: (F,)})

    def test_a_house_is_a_tuple_of_an_odd_number_from_1_to_15(self):
        for many in list(range(0, 17, 2)) + [17, 19]:
            self.bad(0, 1, ((F,) * many,))
        for thing in WRONG:
            self.bad(0, 1, (thing,))
            self.bad(2, 1, ((F,), (F,), thing))
        self.bad(0, 1, ([F],))
        self.bad(1, 1, ((F,), "f"))

    def test_holders(self):
        web = Web(2, ((F,), (F,)))
        for thing in wrong_but(lambda thing: is_holder(web, thing)):
            self.bad(1, 2, ((F,), (thing,)))
        for thing in [("f", 2), ("h", 2), ("f", 6), ("h", 12), ("f", -1), ("h", -1), ("F", 0), ("f",), ("h", 0, 0)]:
            self.bad(1, 2, ((F,), (thing,)))
            self.bad(1, 2, ((F,), tuple([F, thing, ("h", 0)])))
        self.bad(0, 2, ((["f", 0],),))

    def test_flags_are_no_integers(self):
        self.bad("folk", True, ())
        self.bad(0, 2, ((("f", True),),))
        self.bad(0, 2, ((("f", False),),))
        self.bad(1, 2, ((F,), (("h", True),)))

    def test_ascending(self):
        self.bad(0, 3, ((("f", 1), ("f", 0), ("f", 2)),))
        self.bad(0, 3, ((("f", 0), ("f", 2), ("f", 1)),))
        self.bad(1, 3, ((F,), (("h", 0), ("f", 0), ("f", 0))))
        self.assertEqual(len(Web(3, ((F, F, ("h", 0)),)).houses), 1)

    def test_the_first_fault_comes(self):
        self.bad("folk", 0, None)
        self.bad("folk", None, ((),))
        self.bad("houses", 1, ((),) * 13)
        self.bad(1, 1, ((F,), (), None, (F, F)))
        self.bad(0, 1, ((("h", 3),), ()))
        self.bad(0, 1, ((F, F, F, F), ((("f", 1)),)))

    def test_no_other_error(self):
        for one in WRONG:
            for other in WRONG:
                if not (type(one) is int and 1 <= one <= 6):
                    self.bad("folk", one, other)
        deep = nested(38, tuple)
        self.bad(0, 1, (deep,))
        self.bad(0, 1, ((("f", deep),),))
        self.bad(0, 1, (((deep, 0),),))


class Equality(unittest.TestCase):
    def test_just_if_both_are(self):
        self.assertTrue(Web(2, ((F,),)) == Web(2, ((F,),)))
        self.assertFalse(Web(2, ((F,),)) != Web(2, ((F,),)))
        self.assertFalse(Web(2, ((F,),)) == Web(3, ((F,),)))
        self.assertFalse(Web(2, ((F,),)) == Web(2, ((("f", 1),),)))
        self.assertTrue(Web(2, ((F,),)) != Web(2, ((F,), (F,))))
        self.assertTrue(Web(2, ()) == EMPTY)
        for k, one in enumerate(PLAIN):
            self.assertEqual(copy.deepcopy(one), one)
            for other in PLAIN[:k]:
                self.assertNotEqual(one, other)

    def test_equal_to_nothing_of_another_kind(self):
        for thing in WRONG + [(3, A.houses), [3, A.houses], A.houses, {"folk": 3, "houses": A.houses}]:
            if not isinstance(thing, Web):
                for web in PLAIN:
                    self.assertIs(web == thing, False)
                    self.assertIs(thing == web, False)
                    self.assertIs(web != thing, True)

    def test_a_returned_web_is_equal_to_a_constructed_one(self):
        self.assertEqual(founded(EMPTY, (F,)), Web(2, ((F,),)))
        self.assertNotEqual(samples.wide(), samples.many())
        self.assertEqual(samples.wide(), samples.wide())
        self.assertEqual(beside(MIXED, MIXED), beside(MIXED, MIXED))


class Holding(unittest.TestCase):
    def test_held(self):
        self.assertEqual(held(K, 0, ("h", 1)), 2)
        self.assertEqual(held(K, 0, ("f", 0)), 1)
        self.assertEqual(held(K, 0, ("h", 0)), 0)
        self.assertEqual(held(MIXED, 4, ("f", 0)), 2)
        for web in PLAIN + [samples.wide(), samples.many()]:
            holders = [("f", k) for k in range(web.folk)] + [("h", k) for k in range(len(web.houses))]
            for house, shares in enumerate(web.houses):
                counts = [kept(self, held, web, house, holder) for holder in holders]
                self.assertEqual(counts, [len([1 for one in shares if one == holder]) for holder in holders])
                self.assertEqual(sum(counts), len(shares))

    def test_held_errors(self):
        for web in [K, EMPTY, MIXED, samples.many()]:
            for thing in wrong_but(lambda thing: integer(thing, len(web.houses))) + [len(web.houses)]:
                self.assertEqual(error_of(held, web, thing, F), (NoHouse, {}))
                self.assertEqual(error_of(held, web, thing, None), (NoHouse, {}))
        for web in [K, MIXED, samples.many()]:
            for thing in wrong_but(lambda thing: is_holder(web, thing)) + [("f", web.folk), ("h", len(web.houses))]:
                self.assertEqual(error_of(held, web, 0, thing), (NoHolder, {}))

    def test_holdings(self):
        self.assertEqual(kept(self, holdings, K, ("h", 1)), [(0, 2)])
        self.assertEqual(kept(self, holdings, K, ("f", 0)), [(0, 1), (1, 1)])
        self.assertEqual(kept(self, holdings, MIXED, ("h", 2)), [(3, 2)])
        self.assertEqual(kept(self, holdings, MIXED, ("f", 1)), [(0, 1), (1, 1), (4, 1)])
        self.assertEqual(kept(self, holdings, EMPTY, ("f", 1)), [])
        self.assertEqual(kept(self, holdings, C, ("f", 0)), [])
        for web in [samples.wide(), samples.many()]:
            for k in range(len(web.houses)):
                told = [(house, web.houses[house].count(("h", k))) for house in range(len(web.houses))]
                self.assertEqual(kept(self, holdings, web, ("h", k)), [pair for pair in told if pair[1]])

    def test_holdings_errors(self):
        for web in [K, MIXED, EMPTY]:
            for thing in wrong_but(lambda thing: is_holder(web, thing)) + [("f", web.folk), ("h", len(web.houses))]:
                self.assertEqual(error_of(holdings, web, thing), (NoHolder, {}))

    def test_most_held(self):
        self.assertEqual(kept(self, most_held, K, 0), (("h", 1),))
        self.assertEqual(kept(self, most_held, A, 0), (("f", 0), ("f", 1), ("f", 2)))
        self.assertEqual(kept(self, most_held, MIXED, 4), (("f", 0),))
        web = Web(2, ((("f", 0), ("f", 0), ("f", 1), ("h", 0), ("h", 0)),))
        self.assertEqual(most_held(web, 0), (("f", 0), ("h", 0)))
        for web in PLAIN + [samples.wide(), samples.many()]:
            for house, shares in enumerate(web.houses):
                most = max(shares.count(one) for one in shares)
                told = tuple(sorted({one for one in shares if shares.count(one) == most}))
                self.assertEqual(kept(self, most_held, web, house), told)

    def test_most_held_errors(self):
        for web in [K, EMPTY, MIXED]:
            for thing in wrong_but(lambda thing: integer(thing, len(web.houses))) + [len(web.houses)]:
                self.assertEqual(error_of(most_held, web, thing), (NoHouse, {}))


if __name__ == "__main__":
    unittest.main()
