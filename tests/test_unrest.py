import random
import unittest

from roundowned.errors import NoBoards, NoVote
from roundowned.making import beside
from roundowned.unrest import is_unrest, unrest
from roundowned.webs import Web
from tests import samples
from tests.samples import (A, C, CHAIN, EMPTY, FULL, K, MIXED, SELF, WRONG, all_flags, check_errors, check_too_many,
                           error_of, integer, kept, nested, random_webs, wrong_flags)
from tests.test_meetings import stands
from tests.test_orders import behind, plain_rows


def ring_web(many):
    return Web(1, tuple((("h", (k + 1) % many),) for k in range(many)))


def plain_unrest(web, vote, boards, thing):
    """Whether a thing is a pair of rows of meetings, the second round about, by all houses and with a change."""
    many = len(web.houses)
    if type(thing) is not tuple or len(thing) != 2 or not all(type(row) is tuple for row in thing):
        return False
    if not all(integer(house, many) for row in thing for house in row):
        return False
    for house in thing[0]:
        boards = behind(web, vote, boards, house)
    start, changed = boards, False
    for house in thing[1]:
        changed = changed or behind(web, vote, boards, house) != boards
        boards = behind(web, vote, boards, house)
    return changed and boards == start and set(thing[1]) == set(range(many))


def plain_exists(web, vote, boards):
    """Whether there is unrest: boards that come again and again, among which each house can meet."""
    houses = range(len(web.houses))
    rows = {stand: plain_rows(web, vote, stand) for stand in plain_rows(web, vote, boards)}
    for stand in rows:
        round_about = [other for other in rows[stand] if stand in rows[other]]
        if len(round_about) > 1 and all(any(behind(web, vote, other, house) in round_about for other in round_about)
                                        for house in houses):
            return True
    return False


class Unrest(unittest.TestCase):
    def check(self, web, vote, boards):
        told = kept(self, unrest, web, vote, boards)
        if told is not None:
            self.assertTrue(plain_unrest(web, vote, boards, told), (web.folk, web.houses, vote, boards, told))
            self.assertIs(kept(self, is_unrest, web, vote, boards, told), True)
        return told

    def test_plain_ones(self):
        self.assertIsNone(self.check(K, (True,), (True, False)))
        self.assertIsNone(self.check(K, (True,), (True, True)))
        self.assertIsNone(self.check(A, (True, True, False), (False,)))
        self.assertIsNone(self.check(EMPTY, (True, False), ()))
        self.assertIsNotNone(self.check(C, (True,), (True, False, False)))
        self.assertIsNone(self.check(C, (True,), (True, True, True)))
        self.assertIsNone(self.check(ring_web(2), (True,), (True, False)))
        self.assertIsNotNone(self.check(ring_web(8), (True,), (True,) + (False,) * 7))
        self.assertIsNotNone(self.check(ring_web(8), (True,), (True, False) * 4))
        # The ring goes round, but the house that one of the folk holds must meet, too, and then stands still.
        self.assertIsNotNone(self.check(beside(C, Web(1, ((("f", 0),),))), (True,), (True, False, False, False)))
        # A house that meets in a ring leads it to rest.
        stopped = Web(2, ((("f", 0), ("f", 1), ("h", 2)), (("h", 0),), (("h", 1),)))
        self.assertIsNone(self.check(stopped, (True, True), (True, False, False)))
        self.assertIsNotNone(self.check(stopped, (True, False), (True, False, False)))

    def test_a_house_that_has_to_leave(self):
        # House 3 says yes for ever once the ring has stood so that it met at yes, and then holds the ring.
        web = Web(1, ((("h", 2), ("h", 3), ("h", 3)), (("h", 0),), (("h", 1),), (("f", 0),)))
        self.assertIsNone(self.check(web, (True,), (True, False, False, False)))

    def test_drawn_webs(self):
        rng = random.Random(51)
        found = set()
        webs = random_webs(51, 60, 3, 4, 3) + random_webs(52, 40, 1, 5, 1) + [K, A, C, SELF, CHAIN, EMPTY, ring_web(4)]
        for web in webs:
            for vote, boards in stands(web, rng, 3):
                told = self.check(web, vote, boards)
                self.assertIs(told is not None, plain_exists(web, vote, boards))
                found.add(told is not None)
        self.assertEqual(found, {True, False})

    def test_drawn_rows(self):
        rng = random.Random(53)
        found = []
        side = Web(2, ((("h", 1),), (("h", 2),), (("h", 0),), (("f", 0), ("h", 0), ("h", 1))))
        for web in [C, ring_web(4), side, beside(C, K), samples.wide(), ring_web(3)]:
            houses = range(len(web.houses))
            for vote in all_flags(web.folk)[:4]:
                for _ in range(40):
                    boards = tuple(rng.choice((True, False)) for _ in houses)
                    first, again = unrest(web, vote, boards) or ((), tuple(houses))
                    at, house = rng.randrange(len(again)), rng.choice(houses)
                    for thing in [(first, again), (again, again), (first + (house,), again), (first[1:], again),
                                  (first, again[:at] + again[at + 1:]), (first, again[:at] + (house,) + again[at:]),
                                  (first, again[at:] + again[:at]), (first, again + again), (again[:at], again)]:
                        told = plain_unrest(web, vote, boards, thing)
                        found.append(told)
                        self.assertIs(kept(self, is_unrest, web, vote, boards, thing), told)
        self.assertGreater(min(found.count(True), found.count(False)), 500)

    def test_judged(self):
        stand = ((True,), (True, False, False))
        again = (2, 0, 1, 2, 0, 1)
        self.assertIs(is_unrest(C, *stand, ((), again)), True)
        self.assertIs(is_unrest(C, *stand, ((), again + again)), True)
        self.assertIs(is_unrest(C, *stand, ((2,), (0, 1, 2, 0, 1, 2))), True)
        self.assertIs(is_unrest(C, *stand, ((2, 0), again)), False)
        self.assertIs(is_unrest(C, *stand, ((), again[:5])), False)
        self.assertIs(is_unrest(C, *stand, ((), ())), False)
        self.assertIs(is_unrest(C, *stand, (again, ())), False)
        for thing in [(list(again), again), ((), list(again)), [(), again], ((), again, ()), (again,), ((), again + (3,)),
                      ((), again + (-1,)), ((), again + (True,)), ((3,), again), ((), again + ("0",)), {0: (), 1: again},
                      ((), {0: 1}), (None, again), ((), None), ((), nested(39, tuple)), (nested(39, tuple), again)]:
            self.assertIs(is_unrest(C, *stand, thing), False)
        # All meet and come back, but nothing changes.
        self.assertIs(is_unrest(C, (True,), (True,) * 3, ((), (0, 1, 2))), False)
        self.assertIs(is_unrest(EMPTY, (True, True), (), ((), ())), False)
        # What changes ahead of the round does not count.
        self.assertIs(is_unrest(A, (True,) * 3, (False,), ((0,), (0,))), False)
        self.assertIs(is_unrest(A, (True,) * 3, (False,), ((), (0,))), False)
        two = beside(C, Web(1, ((("f", 0),),)))
        self.assertIs(is_unrest(two, (True,), (True, False, False, True), ((), again)), False)
        self.assertIs(is_unrest(two, (True,), (True, False, False, True), ((), again + (3,))), True)
        self.assertIs(is_unrest(two, (True,), (True, False, False, False), ((), again + (3,))), False)
        self.assertIs(is_unrest(two, (True,), (True, False, False, False), ((3,), again + (3,))), True)

    def test_errors(self):
        for web in [K, A, MIXED, samples.knotted(8, 3), samples.knotted(9, 3), samples.many()]:
            many = len(web.houses)
            slots = [(NoVote, (True,) * web.folk, wrong_flags(web.folk)), (NoBoards, (True,) * many, wrong_flags(many))]
            if many > 8:
                check_too_many(self, 8, unrest, web, slots)
            else:
                check_errors(self, unrest, web, slots)
            check_errors(self, is_unrest, web, slots + [(None, ((), ()), [])])
            for thing in WRONG:
                self.assertIsNone(error_of(is_unrest, web, (True,) * web.folk, (True,) * many, thing))
                self.assertIs(is_unrest(web, (True,) * web.folk, (True,) * many, thing), False)

    def test_large_webs(self):
        web = samples.ring_of(4)
        many = len(web.houses)
        boards = tuple(k % 2 == 0 for k in range(many))
        self.assertIs(is_unrest(web, (True,), boards, ((), tuple(range(many)))), False)
        ring = ring_web(12)
        self.assertIs(is_unrest(ring, (True,), (True,) + (False,) * 11, ((), tuple(range(11, -1, -1)) * 12)), False)
        again = (11, 0, 10, 11, 9, 10, 8, 9, 7, 8, 6, 7, 5, 6, 4, 5, 3, 4, 2, 3, 1, 2, 0, 1)
        self.assertIs(is_unrest(ring, (True,), (True,) + (False,) * 11, ((), again)), True)
        self.assertIs(is_unrest(FULL, (True,) * 6, (True,) * 12, ((0,) * 5000, (0,) * 4000)), False)


if __name__ == "__main__":
    unittest.main()
