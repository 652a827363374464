import random
import unittest

from roundowned.errors import NoBoards, NoHouse, NoRow, NoVote
from roundowned.making import beside
from roundowned.meetings import all_met, changing, cycle, meetings, met, says
from roundowned.webs import Web
from tests import samples
from tests.samples import (A, C, CHAIN, EMPTY, FULL, K, MIXED, PLAIN, all_flags, check_errors, error_of, kept,
                           random_web, random_webs, wrong_flags, wrong_houses, wrong_rows)

BOTH = (False, True)


def plain_says(web, vote, boards, house):
    yes = [vote[k] if kind == "f" else boards[k] for kind, k in web.houses[house]]
    return yes.count(True) > yes.count(False)


def plain_cycle(web, vote, boards):
    seen = []
    while boards not in seen:
        seen.append(boards)
        boards = tuple(plain_says(web, vote, boards, house) for house in range(len(web.houses)))
    return seen.index(boards), len(seen) - seen.index(boards)


def stands(web, rng, many):
    """Some votes and boards of a web, those all alike among them."""
    for flag in BOTH:
        for other in BOTH:
            yield (flag,) * web.folk, (other,) * len(web.houses)
    for _ in range(many):
        yield tuple(rng.choice(BOTH) for _ in range(web.folk)), tuple(rng.choice(BOTH) for _ in web.houses)


class Meetings(unittest.TestCase):
    def test_says_and_met(self):
        self.assertIs(says(K, (True,), (False, False), 0), False)
        self.assertIs(says(K, (True,), (False, True), 0), True)
        self.assertIs(says(K, (False,), (False, True), 0), True)
        self.assertEqual(met(K, (True,), (True, False), 1), (True, True))
        self.assertEqual(met(K, (True,), (True, False), 0), (False, False))
        self.assertEqual([says(A, vote, (False,), 0) for vote in all_flags(3)],
                         [False, False, False, True, False, True, True, True])

    def test_drawn_webs(self):
        rng = random.Random(11)
        for web in random_webs(9, 60, 4, 6) + PLAIN + [samples.wide(), samples.many()]:
            for vote, boards in stands(web, rng, 6):
                houses = range(len(web.houses))
                told = [plain_says(web, vote, boards, house) for house in houses]
                for house in houses:
                    flag = kept(self, says, web, vote, boards, house)
                    self.assertIs(flag, told[house])
                    fresh = list(boards)
                    fresh[house] = flag
                    self.assertEqual(kept(self, met, web, vote, boards, house), tuple(fresh))
                self.assertEqual(kept(self, all_met, web, vote, boards), tuple(told))
                self.assertEqual(kept(self, changing, web, vote, boards),
                                 tuple(house for house in houses if told[house] != boards[house]))

    def test_meetings(self):
        self.assertEqual(kept(self, meetings, K, (True,), (True, False), [1, 0, 1]), [(True, True)] * 3)
        self.assertEqual(kept(self, meetings, K, (True,), (True, False), (0, 1)), [(False, False)] * 2)
        self.assertEqual(kept(self, meetings, K, (True,), (True, False), ()), [])
        self.assertEqual(kept(self, meetings, EMPTY, (True, False), (), []), [])
        self.assertEqual(kept(self, meetings, C, (True,), (True, False, False), [2, 1, 0, 0]),
                         [(True, False, True), (True, True, True), (True, True, True), (True, True, True)])
        rng = random.Random(12)
        for web in random_webs(10, 60, 4, 8) + [samples.wide(), samples.many(), FULL]:
            for vote, boards in stands(web, rng, 3):
                row = [rng.randrange(len(web.houses)) for _ in range(12)] if web.houses else []
                told = []
                now = boards
                for house in row:
                    now = now[:house] + (plain_says(web, vote, now, house),) + now[house + 1:]
                    told.append(now)
                self.assertEqual(kept(self, meetings, web, vote, boards, row), told)
                self.assertEqual(kept(self, meetings, web, vote, boards, tuple(row)), told)

    def test_rest(self):
        self.assertEqual(changing(K, (True,), (True, True)), ())
        self.assertEqual(changing(K, (True,), (False, False)), ())
        self.assertEqual(changing(K, (True,), (True, False)), (0, 1))
        self.assertEqual(changing(EMPTY, (True, True), ()), ())
        self.assertEqual(all_met(EMPTY, (True, True), ()), ())
        self.assertEqual(all_met(K, (True,), (True, False)), (False, True))

    def test_cycle(self):
        self.assertEqual(kept(self, cycle, K, (True,), (True, False)), (0, 2))
        self.assertEqual(kept(self, cycle, K, (True,), (True, True)), (0, 1))
        self.assertEqual(kept(self, cycle, EMPTY, (True, True), ()), (0, 1))
        self.assertEqual(kept(self, cycle, C, (True,), (True, False, False)), (0, 3))
        self.assertEqual(kept(self, cycle, C, (True,), (True, True, True)), (0, 1))
        self.assertEqual(kept(self, cycle, CHAIN, (True, False, False), (False,) * 4), (3, 1))
        chain = Web(1, ((("f", 0),), (("h", 0),), (("h", 1),)))
        self.assertEqual(cycle(chain, (True,), (False,) * 3), (3, 1))
        self.assertEqual(cycle(chain, (False,), (False, True, False)), (2, 1))
        self.assertIs(type(cycle(chain, (True,), (False,) * 3)), tuple)

    def test_cycle_drawn(self):
        rng = random.Random(13)
        webs = random_webs(14, 80, 3, 8, 3) + PLAIN + [samples.wide(), samples.many(), MIXED]
        webs += [random_web(rng, 1, 8, 1) for _ in range(60)]
        for web in webs:
            for vote, boards in stands(web, rng, 5):
                self.assertEqual(kept(self, cycle, web, vote, boards), plain_cycle(web, vote, boards))

    def test_cycle_of_rings_side_by_side(self):
        web = Web(1, ())
        period = 1
        boards = ()
        for many in [2, 3, 5, 7, 11, 4]:
            web = beside(web, Web(1, tuple((("h", (k + 1) % many),) for k in range(many))))
            boards = boards + (True,) + (False,) * (many - 1)
        self.assertEqual(cycle(web, (True,), boards), (0, 4 * 3 * 5 * 7 * 11))
        web = beside(web, Web(1, ((("f", 0),), (("h", 0),), (("h", 1),))))
        self.assertEqual(cycle(web, (True,), boards + (False,) * 3), (3, 4 * 3 * 5 * 7 * 11))
        self.assertEqual(cycle(web, (False,), boards + (False,) * 3), (0, 4 * 3 * 5 * 7 * 11))

    def test_errors(self):
        for web in [K, A, MIXED, samples.many()]:
            vote, boards = (True,) * web.folk, (False,) * len(web.houses)
            slots = [(NoVote, vote, wrong_flags(web.folk)), (NoBoards, boards, wrong_flags(len(web.houses)))]
            house = (NoHouse, 0, wrong_houses(web))
            check_errors(self, says, web, slots + [house])
            check_errors(self, met, web, slots + [house])
            check_errors(self, meetings, web, slots + [(NoRow, [0, 0], wrong_rows(web))])
            for function in [changing, all_met, cycle]:
                check_errors(self, function, web, slots)
        for thing in wrong_houses(EMPTY):
            self.assertEqual(error_of(says, EMPTY, (True, True), (), thing), (NoHouse, {}))
        self.assertEqual(error_of(meetings, EMPTY, (True, True), (), [0]), (NoRow, {}))
        self.assertEqual(error_of(says, EMPTY, (True, True), (True,), 0), (NoBoards, {}))

    def test_large_webs(self):
        web = samples.chain_of(4)
        boards = (False,) * len(web.houses)
        self.assertEqual(cycle(web, (True,), boards), (len(boards), 1))
        self.assertEqual(len(changing(web, (True,), boards)), 1)
        self.assertEqual(len(meetings(web, (True,), boards, [0] * 100)), 100)


if __name__ == "__main__":
    unittest.main()
