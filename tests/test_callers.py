import random
import unittest
from fractions import Fraction

from roundowned.callers import called, chance
from roundowned.errors import NoBoards, NoHouse, NoNumber, NoVote
from roundowned.meetings import changing
from roundowned.webs import Web
from tests import samples
from tests.samples import (A, C, CHAIN, EMPTY, K, MIXED, SELF, all_flags, check_errors, check_too_many, error_of,
                           integer, kept, random_webs, wrong_but, wrong_flags, wrong_houses)
from tests.test_meetings import stands
from tests.test_orders import behind


def drawn(web, vote, boards, rounds):
    """The chances of all boards behind so many drawn meetings."""
    many = len(web.houses)
    now = {boards: Fraction(1)}
    for _ in range(rounds):
        fresh = {}
        for stand, part in now.items():
            for house in range(many):
                goal = behind(web, vote, stand, house)
                fresh[goal] = fresh.get(goal, 0) + part / many
        now = fresh
    return now


def plain_called(web, vote, boards, house, many, first=True):
    if many == 0:
        return boards[house]
    choose = any if first else all
    return choose(plain_called(web, vote, behind(web, vote, boards, goal), house, many - 1, not first)
                  for goal in range(len(web.houses)))


class Chance(unittest.TestCase):
    def test_plain_ones(self):
        self.assertEqual(kept(self, chance, K, (True,), (True, False), 0), (1, 2))
        self.assertEqual(kept(self, chance, K, (True,), (True, True), 0), (1, 1))
        self.assertEqual(kept(self, chance, K, (True,), (False, False), 1), (0, 1))
        self.assertEqual(chance(A, (True, True, False), (False,), 0), (1, 1))
        self.assertEqual(chance(A, (True, False, False), (True,), 0), (0, 1))
        self.assertEqual(chance(C, (True,), (True, False, False), 1), (1, 3))
        self.assertEqual(chance(C, (True,), (True, True, False), 1), (2, 3))
        self.assertEqual(chance(CHAIN, (True, False, False), (False,) * 4, 3), (1, 1))
        six = Web(1, tuple((("h", (k + 1) % 6),) for k in range(6)))
        for count in range(7):
            told = chance(six, (True,), (True,) * count + (False,) * (6 - count), 2)
            self.assertEqual(Fraction(*told), Fraction(count, 6))
        self.assertEqual(chance(six, (False,), (True, False) * 3, 0), (1, 2))

    def test_lowest_terms(self):
        rng = random.Random(61)
        for web in random_webs(61, 60, 2, 6) + [MIXED]:
            for vote, boards in stands(web, rng, 2):
                for house in range(len(web.houses)):
                    told = kept(self, chance, web, vote, boards, house)
                    self.assertIs(type(told), tuple)
                    self.assertTrue(all(type(part) is int for part in told))
                    self.assertEqual((Fraction(*told).numerator, Fraction(*told).denominator), told)
                    self.assertTrue(0 <= Fraction(*told) <= 1)

    def test_one_meeting_further(self):
        # The chance of boards that are not at rest is the mean of those behind each meeting.
        rng = random.Random(62)
        unlike = set()
        six = Web(1, ((("h", 4),), (("h", 0), ("h", 3), ("h", 5)), (("h", 1),), (("h", 2),), (("h", 3),), (("h", 2),)))
        for web in random_webs(62, 40, 2, 4, 3) + random_webs(65, 40, 1, 6, 1) + [K, C, CHAIN, six]:
            houses = range(len(web.houses))
            for vote, boards in stands(web, rng, 2):
                for house in houses:
                    told = Fraction(*chance(web, vote, boards, house))
                    unlike.add(told)
                    means = [Fraction(*chance(web, vote, behind(web, vote, boards, goal), house)) for goal in houses]
                    self.assertEqual(told, sum(means) / len(houses))
                    if changing(web, vote, boards) == ():
                        self.assertEqual(told, int(boards[house]))
        self.assertGreater(len(unlike), 5)

    def test_many_meetings(self):
        # Behind many drawn meetings nearly all chance is at rest, and what is so bounds the chance that is told.
        rng = random.Random(63)
        for web in [web for web in random_webs(63, 25, 2, 4, 3) if web.houses] + [K, C, SELF, CHAIN]:
            for vote, boards in stands(web, rng, 1):
                now = drawn(web, vote, boards, 100)
                rest = {stand: part for stand, part in now.items() if changing(web, vote, stand) == ()}
                gone = sum(rest.values())
                self.assertGreater(gone, Fraction(99, 100))
                for house in range(len(web.houses)):
                    low = sum(part for stand, part in rest.items() if stand[house])
                    told = Fraction(*chance(web, vote, boards, house))
                    self.assertTrue(low <= told <= low + 1 - gone)

    def test_errors(self):
        for web in [K, A, MIXED, samples.knotted(6, 3), samples.knotted(7, 3), samples.many()]:
            many = len(web.houses)
            slots = [(NoVote, (True,) * web.folk, wrong_flags(web.folk)), (NoBoards, (True,) * many, wrong_flags(many)),
                     (NoHouse, 0, wrong_houses(web))]
            if many > 6:
                check_too_many(self, 6, chance, web, slots)
            else:
                check_errors(self, chance, web, slots)
        self.assertEqual(error_of(chance, EMPTY, (True, True), (), 0), (NoHouse, {}))


class Called(unittest.TestCase):
    def test_plain_ones(self):
        self.assertIs(kept(self, called, K, (True,), (True, False), 0, 0), True)
        self.assertIs(kept(self, called, K, (True,), (True, False), 1, 0), False)
        self.assertIs(kept(self, called, K, (True,), (True, False), 1, 1), True)
        self.assertIs(kept(self, called, K, (True,), (True, False), 0, 60), True)
        self.assertIs(kept(self, called, K, (True,), (False, False), 0, 60), False)
        self.assertIs(called(A, (True, False, False), (True,), 0, 1), False)
        # With one meeting the first caller calls last, with two the second one does.
        two = Web(2, ((("h", 1),), (("f", 0),)))
        self.assertIs(called(two, (True, True), (False, False), 0, 1), False)
        self.assertIs(called(two, (True, True), (False, False), 0, 2), False)
        self.assertIs(called(two, (True, True), (False, False), 0, 3), True)
        self.assertIs(called(C, (True,), (True, False, False), 0, 60), True)
        self.assertIs(called(C, (True,), (True, False, False), 1, 60), False)
        self.assertIs(called(C, (True,), (True, False, False), 1, 2), False)

    def test_drawn_webs(self):
        rng = random.Random(64)
        found = []
        for web in random_webs(64, 60, 2, 4) + [K, C, SELF, A]:
            for vote, boards in stands(web, rng, 2):
                for house in range(len(web.houses)):
                    for many in range(6):
                        told = kept(self, called, web, vote, boards, house, many)
                        self.assertIs(told, plain_called(web, vote, boards, house, many))
                        found.append(told)
        self.assertGreater(min(found.count(True), found.count(False)), 200)

    def test_eight_houses_and_sixty_meetings(self):
        eight = Web(1, tuple((("h", (k + 1) % 8),) for k in range(8)))
        for many in [59, 60]:
            for house in range(8):
                self.assertIsInstance(called(eight, (True,), (True, False) * 4, house, many), bool)
        self.assertIs(called(samples.row_of(8), (True,), (False,) * 8, 7, 60), True)
        self.assertIs(called(samples.row_of(8), (True,), (False,) * 8, 7, 15), True)
        self.assertIs(called(samples.row_of(8), (True,), (False,) * 8, 7, 14), False)
        self.assertIs(called(samples.row_of(8), (False,), (False,) * 8, 7, 60), False)
        self.assertIs(called(samples.row_of(8), (False,), (False,) * 7 + (True,), 7, 0), True)
        self.assertIs(called(samples.row_of(8), (False,), (False,) * 7 + (True,), 7, 60), False)

    def test_errors(self):
        numbers = (NoNumber, 60, wrong_but(lambda thing: integer(thing, 61)) + [-1, 61, [1], "1", (1,), -60])
        for web in [K, A, MIXED, samples.knotted(8, 3), samples.knotted(9, 3), samples.many()]:
            many = len(web.houses)
            slots = [(NoVote, (True,) * web.folk, wrong_flags(web.folk)), (NoBoards, (True,) * many, wrong_flags(many)),
                     (NoHouse, 0, wrong_houses(web)), numbers]
            if many > 8:
                check_too_many(self, 8, called, web, slots)
            else:
                check_errors(self, called, web, slots)
                self.assertIsNone(error_of(called, web, (True,) * web.folk, (True,) * many, 0, 0))
        self.assertEqual(error_of(called, EMPTY, (True, True), (), 0, 0), (NoHouse, {}))
        self.assertEqual(len(all_flags(3)), 8)


if __name__ == "__main__":
    unittest.main()
