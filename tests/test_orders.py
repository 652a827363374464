import random
import unittest

from roundowned.errors import NoBoards, NoFlag, NoHouse, NoVote
from roundowned.meetings import changing, met
from roundowned.orders import (end_row, ends, fate, fewest_meetings, greatest_end, least_end, reachable, settles)
from roundowned.rests import greatest_rest, least_rest
from roundowned.unrest import unrest
from roundowned.webs import Web
from tests import samples
from tests.samples import (A, C, CHAIN, EMPTY, FULL, K, MIXED, SELF, all_flags, check_errors, check_too_many, error_of,
                           kept, random_webs, wrong_but, wrong_flags, wrong_houses)
from tests.test_meetings import plain_says, stands

WEBS = [K, A, C, SELF, CHAIN, MIXED, EMPTY]


def behind(web, vote, boards, house):
    return boards[:house] + (plain_says(web, vote, boards, house),) + boards[house + 1:]


def plain_rows(web, vote, boards):
    """The dict from all boards that can come to the least of the shortest rows, found by trying longer and longer ones."""
    found = {boards: ()}
    fresh = [((), boards)]
    while fresh:
        longer = {}
        for row, now in fresh:
            for house in range(len(web.houses)):
                stand = behind(web, vote, now, house)
                if stand not in found:
                    longer.setdefault(stand, []).append(row + (house,))
        fresh = [(min(rows), stand) for stand, rows in longer.items()]
        found.update((stand, row) for row, stand in fresh)
    return found


def plain_drive(web, vote, boards, flag, rng):
    """The boards behind meetings that turn to a flag, in a drawn order."""
    while True:
        turning = [k for k in changing(web, vote, boards) if boards[k] != flag]
        if not turning:
            return boards
        boards = met(web, vote, boards, rng.choice(turning))


class Ends(unittest.TestCase):
    def test_plain_ones(self):
        self.assertEqual(kept(self, ends, K, (True,), (True, False)), [(False, False), (True, True)])
        self.assertEqual(kept(self, greatest_end, K, (True,), (True, False)), (True, True))
        self.assertEqual(kept(self, least_end, K, (True,), (True, False)), (False, False))
        self.assertIs(settles(K, (True,), (True, False)), False)
        self.assertIs(settles(K, (True,), (True, True)), True)
        self.assertIs(settles(A, (True, True, False), (False,)), True)
        self.assertIs(settles(EMPTY, (True, True), ()), True)
        self.assertEqual(greatest_end(EMPTY, (True, True), ()), ())
        self.assertEqual(ends(EMPTY, (True, True), ()), [()])
        self.assertEqual(reachable(EMPTY, (True, True), ()), [()])
        self.assertEqual(end_row(EMPTY, (True, True), (), ()), ())
        self.assertEqual(ends(C, (True,), (True, False, False)), [(False,) * 3, (True,) * 3])
        self.assertEqual(reachable(C, (True,), (False,) * 3), [(False,) * 3])
        self.assertEqual(len(reachable(C, (True,), (True, False, False))), 8)

    def test_both_ends(self):
        rng = random.Random(41)
        for web in random_webs(41, 80, 4, 8) + WEBS + [FULL, samples.wide(), samples.many(), samples.knotted(9)]:
            for vote, boards in stands(web, rng, 4):
                top = plain_drive(web, vote, plain_drive(web, vote, boards, True, rng), False, rng)
                bottom = plain_drive(web, vote, plain_drive(web, vote, boards, False, rng), True, rng)
                self.assertEqual(kept(self, greatest_end, web, vote, boards), top)
                self.assertEqual(kept(self, least_end, web, vote, boards), bottom)
                self.assertIs(kept(self, settles, web, vote, boards), top == bottom)
                self.assertEqual(changing(web, vote, top), ())
                self.assertEqual(changing(web, vote, bottom), ())

    def test_the_sixth_fact(self):
        rng = random.Random(42)
        both = set()
        for web in random_webs(42, 120, 3, 5, 3) + WEBS + [samples.wide()]:
            for vote, boards in stands(web, rng, 4):
                one = len(ends(web, vote, boards)) == 1 and unrest(web, vote, boards) is None
                self.assertIs(settles(web, vote, boards), one)
                both.add(one)
        self.assertEqual(both, {True, False})

    def test_what_can_come(self):
        rng = random.Random(43)
        for web in random_webs(43, 70, 3, 5) + WEBS + [samples.wide()]:
            many = len(web.houses)
            for vote, boards in stands(web, rng, 2):
                rows = plain_rows(web, vote, boards)
                rest = [stand for stand in sorted(rows) if changing(web, vote, stand) == ()]
                self.assertEqual(kept(self, reachable, web, vote, boards), sorted(rows))
                self.assertEqual(kept(self, ends, web, vote, boards), rest)
                self.assertIn(greatest_end(web, vote, boards), rest)
                self.assertIn(least_end(web, vote, boards), rest)
                for stand in all_flags(many):
                    self.assertEqual(kept(self, end_row, web, vote, boards, stand), rows.get(stand))
                for house in range(many):
                    flags = {stand[house] for stand in rest}
                    word = "open" if len(flags) == 2 else "yes" if True in flags else "no"
                    self.assertEqual(kept(self, fate, web, vote, boards, house), word)
                    for flag in (True, False):
                        told = [len(row) for stand, row in rows.items() if stand[house] is flag]
                        self.assertEqual(kept(self, fewest_meetings, web, vote, boards, house, flag),
                                         min(told, default=None))

    def test_rows(self):
        self.assertEqual(end_row(K, (True,), (True, False), (True, True)), (1,))
        self.assertEqual(end_row(K, (True,), (True, False), (True, False)), ())
        self.assertIsNone(end_row(K, (True,), (True, True), (False, False)))
        self.assertIsNone(end_row(K, (True,), (True, True), (True, False)))
        # Boards that are not at rest are led to as well.
        self.assertEqual(end_row(C, (True,), (True, False, False), (True, False, True)), (2,))
        # The least row, not the one by the house that turns first.
        side = Web(1, ((("f", 0),), (("f", 0),), (("f", 0),)))
        self.assertEqual(end_row(side, (True,), (False,) * 3, (True,) * 3), (0, 1, 2))
        self.assertEqual(end_row(CHAIN, (True, False, False), (False,) * 4, (True, False, True, True)), (0, 2, 3))
        self.assertEqual(fewest_meetings(CHAIN, (True, False, False), (False,) * 4, 3, True), 3)
        self.assertEqual(fewest_meetings(CHAIN, (True, False, False), (False,) * 4, 3, False), 0)
        self.assertIsNone(fewest_meetings(CHAIN, (False,) * 3, (False,) * 4, 3, True))
        self.assertEqual(fewest_meetings(K, (True,), (True, False), 1, True), 1)
        self.assertEqual(fate(K, (True,), (True, False), 0), "open")
        self.assertEqual(fate(K, (True,), (True, True), 0), "yes")
        self.assertEqual(fate(K, (True,), (False, False), 1), "no")

    def test_eight_houses(self):
        web = samples.knotted(8, 2)
        boards = (True, False) * 4
        self.assertEqual(ends(web, (True, True), boards), [boards])
        self.assertEqual(end_row(samples.row_of(8), (True,), (False,) * 8, (True,) * 8), tuple(range(8)))
        self.assertEqual(fewest_meetings(samples.row_of(8), (True,), (False,) * 8, 7, True), 8)
        ring = samples.ring_of(0)
        eight = Web(1, tuple((("h", (k + 1) % 8),) for k in range(8)))
        # Boards that stand against the told ones everywhere cannot come: each meeting takes a pair of unlike ones away.
        self.assertEqual(reachable(eight, (True,), (True, False) * 4),
                         [boards for boards in all_flags(8) if boards != (False, True) * 4])
        self.assertEqual(ends(eight, (True,), (True, False) * 4), [(False,) * 8, (True,) * 8])
        self.assertEqual(fate(eight, (True,), (True, False) * 4, 5), "open")
        self.assertEqual(greatest_end(ring, (True,), (True,) + (False,) * 11), (True,) * 12)
        self.assertEqual(least_end(ring, (True,), (True,) + (False,) * 11), (False,) * 12)

    def test_errors(self):
        flags = (NoFlag, True, wrong_but(lambda thing: isinstance(thing, bool)) + [0, 1, "yes", [True], None])
        for web in [K, A, MIXED, samples.knotted(8, 3), samples.knotted(9, 3), samples.many()]:
            many = len(web.houses)
            stand = [(NoVote, (True,) * web.folk, wrong_flags(web.folk)), (NoBoards, (True,) * many, wrong_flags(many))]
            house = (NoHouse, 0, wrong_houses(web))
            for function in [greatest_end, least_end, settles]:
                check_errors(self, function, web, stand)
            for function, slots in [(ends, stand), (reachable, stand), (end_row, stand + [stand[1]]),
                                    (fewest_meetings, stand + [house, flags]), (fate, stand + [house])]:
                if many > 8:
                    check_too_many(self, 8, function, web, slots)
                else:
                    check_errors(self, function, web, slots)
        self.assertEqual(error_of(fate, EMPTY, (True, True), (), 0), (NoHouse, {}))
        self.assertEqual(error_of(end_row, EMPTY, (True, True), (), (True,)), (NoBoards, {}))

    def test_large_webs(self):
        web = samples.ring_of(6)
        boards = (True,) + (False,) * 767
        self.assertEqual(greatest_end(web, (True,), boards), greatest_rest(web, (True,)))
        self.assertEqual(least_end(web, (True,), boards), least_rest(web, (True,)))
        self.assertIs(settles(web, (True,), boards), False)
        self.assertIs(settles(samples.chain_of(6), (True,), boards), True)


if __name__ == "__main__":
    unittest.main()
