import collections
import itertools
import random
import unittest

from roundowned.errors import (NoClosing, NoFolk, NoHolder, NoHouse, NoMatch, NoOrder, NoPerson, NoShare,
                               NoShares)
from roundowned.making import beside, closed, founded, put_in, renumbered, sold, spread, swapped
from roundowned.webs import Web
from tests import samples
from tests.samples import (A, C, CHAIN, EMPTY, FULL, K, MIXED, PLAIN, SELF, WRONG, error_of, integer, kept, nested,
                           picture, random_webs, wrong_but)
from tests.test_webs import is_holder

F = ("f", 0)


def seen(web):
    return web.folk, web.houses


class Making(unittest.TestCase):
    def right(self, web):
        """Whether a web is formed as a web is, but for its size."""
        self.assertIs(type(web), Web)
        self.assertIs(type(web.folk), int)
        self.assertIs(type(web.houses), tuple)
        for shares in web.houses:
            self.assertIs(type(shares), tuple)
            self.assertEqual(len(shares) % 2, 1)
            self.assertEqual(list(shares), sorted(shares))
            self.assertTrue(all(is_holder(web, holder) for holder in shares))

    def made(self, function, *told):
        web = kept(self, function, *told)
        self.right(web)
        return seen(web)


class Selling(Making):
    def test_sold(self):
        self.assertEqual(self.made(sold, K, 0, 0, ("h", 0)), (1, ((("h", 0), ("h", 1), ("h", 1)), K.houses[1])))
        self.assertEqual(self.made(sold, K, 1, 2, F), (1, (K.houses[0], (F, F, ("h", 0)))))
        self.assertEqual(self.made(sold, A, 0, 1, ("f", 1)), (3, A.houses))
        for web in PLAIN[4:] + [samples.wide(), samples.many()]:
            for house, shares in enumerate(web.houses):
                for share in sorted({0, len(shares) // 2, len(shares) - 1}):
                    for holder in [("f", web.folk - 1), ("h", len(web.houses) - 1)]:
                        rest = list(shares[:share] + shares[share + 1:])
                        rows = list(web.houses)
                        rows[house] = tuple(sorted(rest + [holder]))
                        self.assertEqual(self.made(sold, web, house, share, holder), (web.folk, tuple(rows)))

    def test_sold_errors(self):
        for web in [K, MIXED, EMPTY, samples.many()]:
            for thing in wrong_but(lambda thing: integer(thing, len(web.houses))) + [len(web.houses)]:
                self.assertEqual(error_of(sold, web, thing, 0, F), (NoHouse, {}))
                self.assertEqual(error_of(sold, web, thing, None, None), (NoHouse, {}))
        for web in [K, MIXED, samples.wide()]:
            many = len(web.houses[0])
            for thing in wrong_but(lambda thing: integer(thing, many)) + [many]:
                self.assertEqual(error_of(sold, web, 0, thing, F), (NoShare, {}))
                self.assertEqual(error_of(sold, web, 0, thing, None), (NoShare, {}))
            for thing in wrong_but(lambda thing: is_holder(web, thing)) + [("f", web.folk), ("h", len(web.houses))]:
                self.assertEqual(error_of(sold, web, 0, 0, thing), (NoHolder, {}))


class Founding(Making):
    def test_founded(self):
        self.assertEqual(self.made(founded, EMPTY, (("f", 0), ("f", 1), ("h", 0))), (2, ((("f", 0), ("f", 1), ("h", 0)),)))
        self.assertEqual(self.made(founded, C, (F,)), (1, C.houses + ((F,),)))
        self.assertEqual(self.made(founded, C, (("h", 3),) * 15), (1, C.houses + ((("h", 3),) * 15,)))
        for web in [FULL, samples.wide(), samples.many()]:
            shares = (("f", 0), ("h", 0), ("h", len(web.houses)))
            self.assertEqual(self.made(founded, web, shares), (web.folk, web.houses + (shares,)))
        self.assertEqual(len(founded(founded(FULL, (F,)), (("h", 13),)).houses), 14)

    def test_founded_errors(self):
        for thing in WRONG + [[F], ([F[0], F[1]],), (F, F), (F,) * 17, (F,) * 16, (("h", 3),), (("f", 1),), F, ("f",),
                              (("h", 0), F, F), (F, ("h", 1), ("h", 0)), ((F,),), (("f", True),), (("h", False),)]:
            self.assertEqual(error_of(founded, K, thing), (NoShares, {}))
        self.assertIsNone(error_of(founded, K, (("h", 2),)))


class Closing(Making):
    def plain(self, web, house):
        """The closed web by counting shares."""
        left = [one for one in web.houses[house] if one != ("h", house)]
        rows = []
        for number, shares in enumerate(web.houses):
            if number == house:
                continue
            held = collections.Counter(shares)
            times = len(left) if held[("h", house)] else 1
            fresh = collections.Counter({one: many * times for one, many in held.items() if one != ("h", house)})
            for one in left:
                fresh[one] += held[("h", house)]
            rows.append(tuple(sorted(
                (kind, number - 1) if kind == "h" and number > house else (kind, number)
                for kind, number in fresh.elements())))
        return web.folk, tuple(rows)

    def test_closed(self):
        self.assertEqual(self.made(closed, A, 0), (3, ()))
        self.assertEqual(self.made(closed, SELF, 0), (2, ()))
        self.assertEqual(self.made(closed, C, 0), (1, ((("h", 1),), (("h", 0),))))
        self.assertEqual(self.made(closed, K, 0), (1, ((("f", 0),) * 5 + (("h", 0),) * 4,)))
        web = Web(2, ((F, ("h", 0), ("h", 0)), (("f", 1), ("h", 0), ("h", 0)), (("f", 1), ("h", 0), ("h", 1))))
        self.assertEqual(self.made(closed, web, 0), (2, ((F, F, ("f", 1)), (F, ("f", 1), ("h", 0)))))

    def test_closed_drawn(self):
        for web in random_webs(5, 120) + PLAIN + [samples.wide(), samples.many()]:
            for house, shares in enumerate(web.houses):
                if sum(one != ("h", house) for one in shares) % 2:
                    self.assertEqual(self.made(closed, web, house), self.plain(web, house))
                else:
                    self.assertEqual(error_of(closed, web, house), (NoClosing, {}))

    def test_closed_errors(self):
        for web in [K, EMPTY, MIXED, samples.many()]:
            for thing in wrong_but(lambda thing: integer(thing, len(web.houses))) + [len(web.houses)]:
                self.assertEqual(error_of(closed, web, thing), (NoHouse, {}))
        web = Web(1, ((("h", 0),), (F, F, ("h", 1)), (("h", 2),) * 3, (F, ("h", 0), ("h", 3)), (F, ("h", 4), ("h", 4))))
        for house in range(4):
            self.assertEqual(error_of(closed, web, house), (NoClosing, {}))
        self.assertIsNone(error_of(closed, web, 4))


class Ordering(Making):
    def test_renumbered(self):
        self.assertEqual(self.made(renumbered, EMPTY, ()), (2, ()))
        self.assertEqual(self.made(renumbered, C, (1, 2, 0)), (1, ((("h", 1),), (("h", 2),), (("h", 0),))))
        web = Web(1, ((F,), (("h", 0),), (F, ("h", 0), ("h", 1))))
        self.assertEqual(self.made(renumbered, web, (2, 0, 1)), (1, ((F, ("h", 1), ("h", 2)), (F,), (("h", 1),))))
        self.assertEqual(self.made(renumbered, web, (0, 2, 1)), (1, ((F,), (F, ("h", 0), ("h", 2)), (("h", 0),))))
        rng = random.Random(6)
        for web in random_webs(7, 40, 2, 12) + [samples.wide(), samples.many()]:
            order = list(range(len(web.houses)))
            rng.shuffle(order)
            told = renumbered(web, tuple(order))
            self.right(told)
            for k, house in enumerate(order):
                back = sorted((kind, order[one] if kind == "h" else one) for kind, one in told.houses[k])
                self.assertEqual(back, list(web.houses[house]))

    def test_swapped(self):
        self.assertEqual(self.made(swapped, A, (2, 0, 1)), (3, A.houses))
        web = Web(3, ((F, F, ("f", 1)), (("f", 2),), (("f", 1), ("f", 2), ("h", 0))))
        self.assertEqual(self.made(swapped, web, (2, 0, 1)), (3, (
            (("f", 1), ("f", 1), ("f", 2)), (("f", 0),), (("f", 0), ("f", 2), ("h", 0)))))
        for web in random_webs(8, 30, 4, 6) + [samples.wide(), samples.many()]:
            for order in itertools.permutations(range(web.folk)):
                told = swapped(web, order)
                self.right(told)
                self.assertEqual(told.folk, web.folk)
                for mine, shares in zip(told.houses, web.houses):
                    self.assertEqual(sorted((kind, order[k] if kind == "f" else k) for kind, k in mine), list(shares))

    def test_order_errors(self):
        wrong = WRONG + [[0, 1, 2], (0, 1), (0, 1, 2, 3), (0, 0, 1), (0, 1, 3), (1, 2, 3), (-1, 0, 1), (0, True, 2),
                         (False, 1, 2), ("0", 1, 2), "012", b"\x00\x01\x02", (0, 1, (2,)), (0, 1, None), {0: 0, 1: 1, 2: 2},
                         (0, 1, nested(39, tuple))]
        for thing in wrong:
            self.assertEqual(error_of(renumbered, C, thing), (NoOrder, {}))
            self.assertEqual(error_of(swapped, A, thing), (NoOrder, {}))
        for thing in [(0,), [], None, (0, 1)]:
            self.assertEqual(error_of(renumbered, EMPTY, thing), (NoOrder, {}))
        self.assertIsNone(error_of(renumbered, C, (2, 1, 0)))
        self.assertIsNone(error_of(swapped, A, (2, 1, 0)))


class Joining(Making):
    def test_beside(self):
        self.assertEqual(self.made(beside, K, C), (1, K.houses + ((("h", 3),), (("h", 4),), (("h", 2),))))
        self.assertEqual(self.made(beside, EMPTY, SELF), (2, SELF.houses))
        self.assertEqual(self.made(beside, SELF, EMPTY), (2, SELF.houses))
        for one in [A, CHAIN, MIXED, samples.wide(), samples.many()]:
            for other in [A, CHAIN, MIXED, samples.wide(), samples.many()]:
                many = len(one.houses)
                shift = tuple(tuple((kind, k + many if kind == "h" else k) for kind, k in row) for row in other.houses)
                self.assertEqual(self.made(beside, one, other), (3, one.houses + shift))

    def test_beside_errors(self):
        for one in PLAIN:
            for other in PLAIN:
                error = error_of(beside, one, other)
                self.assertEqual(error, None if one.folk == other.folk else (NoMatch, {}))

    def test_put_in(self):
        self.assertEqual(self.made(put_in, K, 0, C, 2), (1, (
            (("h", 1), ("h", 1), ("h", 4)), (("h", 0), ("h", 0), ("h", 4)), (("h", 3),), (("h", 4),), (("h", 2),))))
        self.assertEqual(self.made(put_in, EMPTY, 1, SELF, 0), (2, SELF.houses))
        self.assertEqual(self.made(put_in, A, 1, A, 0), (3, ((("f", 0), ("f", 2), ("h", 1)), A.houses[0])))
        for one in [A, CHAIN, MIXED, samples.wide(), samples.many()]:
            for other in [A, CHAIN, MIXED, samples.wide()]:
                many = len(one.houses)
                for person in range(3):
                    house = len(other.houses) - 1
                    name = {("f", person): ("h", many + house)}
                    ours = tuple(tuple(sorted(name.get(one, one) for one in row)) for row in one.houses)
                    self.assertEqual(self.made(put_in, one, person, other, house),
                                     (3, ours + beside(one, other).houses[many:]))

    def test_put_in_errors(self):
        for thing in wrong_but(lambda thing: integer(thing, 3)) + [3]:
            self.assertEqual(error_of(put_in, A, thing, MIXED, 0), (NoPerson, {}))
            self.assertEqual(error_of(put_in, A, thing, K, None), (NoPerson, {}))
        for thing in WRONG:
            self.assertEqual(error_of(put_in, A, 0, K, thing), (NoMatch, {}))
        for thing in wrong_but(lambda thing: integer(thing, 5)) + [5]:
            self.assertEqual(error_of(put_in, A, 0, MIXED, thing), (NoHouse, {}))
        self.assertEqual(error_of(put_in, A, 2, K, 0), (NoMatch, {}))
        self.assertEqual(error_of(put_in, MIXED, 2, A, 4), (NoHouse, {}))
        self.assertEqual(error_of(put_in, EMPTY, 0, EMPTY, 0), (NoHouse, {}))

    def test_spread(self):
        for web in PLAIN + [samples.wide(), samples.many()]:
            for folk in range(web.folk, 7):
                self.assertEqual(self.made(spread, web, folk), (folk, web.houses))
            for thing in wrong_but(lambda thing: False) + [web.folk - 1, 7, 8, 0, -3, "4", (4,)]:
                self.assertEqual(error_of(spread, web, thing), (NoFolk, {}))


class Chains(Making):
    def test_returned_webs_are_passed_on(self):
        web = samples.many()
        before = picture(web)
        self.assertEqual(len(web.houses), 15)
        for function, told, houses in [
                (sold, (14, 0, ("h", 14)), 15), (founded, ((("h", 15),),), 16), (closed, (0,), 14),
                (renumbered, (tuple(range(15))[::-1],), 15), (swapped, ((1, 2, 0),), 15), (beside, (web,), 30),
                (put_in, (1, web, 14), 30), (spread, (6,), 15)]:
            made = function(web, *told)
            self.right(made)
            self.assertEqual(len(made.houses), houses)
        self.assertEqual(picture(web), before)

    def test_closing_multiplies(self):
        web = samples.wide()
        self.assertEqual([len(shares) for shares in web.houses], [15, 25, 75])
        web = closed(beside(web, web), 2)
        self.assertEqual([len(shares) for shares in web.houses], [15, 25, 15, 25, 75])
        web = closed(founded(web, (("f", 0), ("h", 4), ("h", 4))), 4)
        self.assertEqual([len(shares) for shares in web.houses], [15, 25, 15, 25, 3 * 75])
        self.right(web)

    def test_closed_all_the_way(self):
        web = samples.chain_of(4)
        while len(web.houses) > 1:
            web = closed(web, len(web.houses) - 1)
        self.assertEqual(seen(web), (1, ((F,),)))
        self.assertEqual(seen(closed(web, 0)), (1, ()))


if __name__ == "__main__":
    unittest.main()
