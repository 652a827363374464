import random
import unittest

from roundowned.building import made, tripled
from roundowned.counting import tables
from roundowned.errors import NoHouse, NoMatch, TooMany
from roundowned.likeness import are_alike, same_stands, unlike_lot, unlike_stand
from roundowned.making import beside, founded, renumbered, sold, spread
from roundowned.rests import rests
from roundowned.tables import table
from roundowned.webs import Web
from tests import samples
from tests.samples import (A, C, CHAIN, EMPTY, FULL, K, MIXED, PLAIN, SELF, all_flags, all_lots, check_calls, error_of,
                           kept, near_web, random_web, wrong_houses)
from tests.test_knots import plain_carried
from tests.test_meetings import plain_says

BOTH = Web(2, ((("f", 0), ("f", 1), ("h", 0)),))


def pairs(seed, count, folk, houses, most=5):
    """Pairs of webs of as many folk and houses: the same, near one another and far from one another."""
    rng = random.Random(seed)
    for k in range(count):
        many = rng.randint(1, houses)
        one = random_web(rng, rng.randint(1, folk), many, most, k % 4 == 0)
        yield one, Web(one.folk, one.houses)
        yield one, near_web(rng, one)
        yield one, near_web(rng, near_web(rng, one))
        yield one, random_web(rng, one.folk, many, most, k % 4 == 1)


class Alike(unittest.TestCase):
    def check(self, one, house, other, goal):
        lots = [lot for lot in all_lots(one.folk)
                if (house in plain_carried(one, lot)) != (goal in plain_carried(other, lot))]
        least = lots[0] if lots else None
        self.assertEqual(kept(self, unlike_lot, one, house, other, goal), least)
        self.assertIs(kept(self, are_alike, one, house, other, goal), least is None)
        self.assertIs(table(one, house) == table(other, goal), least is None)
        return least is None

    def test_plain_ones(self):
        self.assertIs(are_alike(A, 0, A, 0), True)
        self.assertIs(are_alike(K, 0, K, 1), True)
        self.assertIs(are_alike(K, 0, C, 2), True)
        self.assertIsNone(unlike_lot(K, 1, C, 0))
        self.assertEqual(unlike_lot(A, 0, CHAIN, 0), (0,))
        self.assertEqual(unlike_lot(CHAIN, 0, A, 0), (0,))
        self.assertEqual(unlike_lot(Web(3, ((("f", 2),),)), 0, A, 0), (0, 1))
        self.assertEqual(unlike_lot(Web(3, ((("h", 0),),)), 0, Web(3, ((("f", 2),),)), 0), (0, 1, 2))
        self.assertIs(are_alike(SELF, 0, BOTH, 0), False)
        self.assertEqual(unlike_lot(SELF, 0, BOTH, 0), (0, 1))
        # Webs with unlike numbers of houses have houses that are alike, too.
        self.assertIs(are_alike(A, 0, founded(A, (("h", 0),)), 1), True)
        self.assertIs(are_alike(founded(A, (("h", 0),)), 1, A, 0), True)

    def test_drawn_pairs(self):
        found = []
        for one, other in pairs(201, 40, 4, 4):
            for house in range(len(one.houses)):
                for goal in range(len(other.houses)):
                    found.append(self.check(one, house, other, goal))
        self.assertGreater(min(found.count(True), found.count(False)), 200)

    def test_made_and_tripled_webs(self):
        for folk in (1, 2, 3):
            told = tables(folk, "round")
            webs = [made(folk, one) for one in told]
            for one, web in zip(told, webs):
                for other, goal in zip(told, webs):
                    self.assertIs(are_alike(web, len(web.houses) - 1, goal, len(goal.houses) - 1), one == other)
        for web in [A, K, CHAIN, MIXED, SELF]:
            for house in range(len(web.houses)):
                self.assertIs(are_alike(web, house, tripled(web), house), True)
                self.assertIsNone(unlike_lot(tripled(web), house, web, house))

    def test_returned_webs(self):
        wide, many = samples.wide(), samples.many()
        for house in range(len(wide.houses)):
            for goal in range(len(many.houses)):
                self.check(wide, house, many, goal)
                self.check(many, goal, wide, house)
        ring, chain = samples.ring_of(6), samples.chain_of(6)
        self.assertEqual(unlike_lot(ring, 700, chain, 11), (0,))
        self.assertIs(are_alike(ring, 700, ring, 0), True)
        self.assertIs(are_alike(chain, 700, chain, 0), True)

    def test_errors(self):
        for one, other in [(A, CHAIN), (CHAIN, A), (MIXED, samples.many()), (samples.many(), MIXED)]:
            houses = (NoHouse, 0, wrong_houses(one))
            goals = (NoHouse, 0, wrong_houses(other))
            for function in [are_alike, unlike_lot]:
                for error, _, wrong in [houses]:
                    for thing in wrong:
                        for goal in [0, None, len(other.houses), thing]:
                            self.assertEqual(error_of(function, one, thing, other, goal), (error, {}))
                check_calls(self, function, (one, 0, other), [goals])
        for function in [are_alike, unlike_lot]:
            for house in [0, 1, None, True, -1, "0"]:
                self.assertEqual(error_of(function, A, house, K, house), (NoMatch, {}))
                self.assertEqual(error_of(function, K, house, A, house), (NoMatch, {}))
                self.assertEqual(error_of(function, spread(EMPTY, 3), house, A, 0), (NoHouse, {}))
                self.assertEqual(error_of(function, A, 0, spread(EMPTY, 3), house), (NoHouse, {}))
                self.assertEqual(error_of(function, EMPTY, house, A, 0), (NoMatch, {}))


class Stands(unittest.TestCase):
    def at_rest(self, web, vote, boards):
        return all(plain_says(web, vote, boards, house) == flag for house, flag in enumerate(boards))

    def check(self, one, other):
        least = None
        for vote in all_flags(one.folk):
            for boards in all_flags(len(one.houses)):
                if least is None and self.at_rest(one, vote, boards) != self.at_rest(other, vote, boards):
                    least = (vote, boards)
        self.assertEqual(kept(self, unlike_stand, one, other), least)
        self.assertEqual(kept(self, unlike_stand, other, one), least)
        self.assertIs(kept(self, same_stands, one, other), least is None)
        same = all(rests(one, vote) == rests(other, vote) for vote in all_flags(one.folk))
        self.assertIs(same, least is None)
        return least is None

    def test_plain_ones(self):
        self.assertIs(same_stands(EMPTY, EMPTY), True)
        self.assertIsNone(unlike_stand(EMPTY, EMPTY))
        self.assertIs(same_stands(A, A), True)
        self.assertEqual(unlike_stand(A, Web(3, ((("f", 0),),))), ((False, True, True), (False,)))
        self.assertEqual(unlike_stand(SELF, BOTH), ((False, False), (True,)))
        self.assertEqual(unlike_stand(K, Web(1, ((("h", 0),), (("h", 1),)))), ((False,), (False, True)))
        # A house that hangs on itself has the table of one that nobody carries, but not its stands.
        ring = Web(1, ((("h", 1),), (("h", 0),)))
        self.assertIs(same_stands(K, ring), True)
        self.assertIs(same_stands(ring, Web(1, ((("h", 1),) * 3, (("h", 0),) * 5))), True)

    def test_drawn_pairs(self):
        found = []
        for one, other in pairs(202, 40, 3, 4):
            found.append(self.check(one, other))
        self.assertGreater(min(found.count(True), found.count(False)), 40)
        for one, other in pairs(203, 3, 2, 7, 3):
            self.check(one, other)

    def test_eight_and_nine_houses(self):
        eight, nine = samples.knotted(8, 2), samples.knotted(9, 2)
        self.assertIs(same_stands(eight, eight), True)
        last = sold(eight, 7, 0, ("h", 7))
        self.assertIs(same_stands(eight, last), True)
        turned = sold(last, 7, 0, ("f", 0))
        self.assertIs(same_stands(eight, turned), True)
        turned = sold(turned, 7, 1, ("f", 0))
        self.assertEqual(unlike_stand(eight, turned), ((False, False), (False,) * 7 + (True,)))
        for function in [same_stands, unlike_stand]:
            self.assertEqual(error_of(function, nine, nine), (TooMany, {"most": 8}))
            self.assertEqual(error_of(function, FULL, FULL), (TooMany, {"most": 8}))
            self.assertEqual(error_of(function, samples.many(), samples.many()), (TooMany, {"most": 8}))
            self.assertIsNone(error_of(function, eight, eight))

    def test_returned_webs(self):
        wide = samples.wide()
        self.check(wide, wide)
        self.check(wide, sold(wide, 1, 7, ("f", 0)))
        rng = random.Random(204)
        for _ in range(10):
            self.check(wide, near_web(rng, wide))

    def test_errors(self):
        for function in [same_stands, unlike_stand]:
            for one, other in [(A, K), (A, CHAIN), (MIXED, CHAIN), (EMPTY, SELF), (EMPTY, spread(EMPTY, 3)),
                               (FULL, samples.many()), (samples.knotted(9), samples.knotted(8)),
                               (samples.knotted(9), samples.knotted(9, 2)), (FULL, EMPTY)]:
                self.assertEqual(error_of(function, one, other), (NoMatch, {}))
                self.assertEqual(error_of(function, other, one), (NoMatch, {}))

    def test_order_of_houses(self):
        for web in PLAIN[:-1]:
            order = tuple(reversed(range(len(web.houses))))
            other = renumbered(web, order)
            for vote in all_flags(web.folk):
                for boards in rests(web, vote):
                    self.assertIn(tuple(boards[k] for k in order), rests(other, vote))
        self.assertIs(same_stands(beside(K, A.__class__(1, ())), K), True)


if __name__ == "__main__":
    unittest.main()
