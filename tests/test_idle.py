import random
import unittest

from roundowned.idle import idle, twins
from roundowned.making import beside, founded, renumbered, sold, spread, swapped
from roundowned.tables import table
from roundowned.webs import Web
from tests import samples
from tests.samples import (A, C, CHAIN, EMPTY, FULL, K, MIXED, PLAIN, SELF, all_lots, holders_of, kept, random_web,
                           random_webs, shares_of)
from tests.test_knots import plain_carried


def all_tables(web):
    return [sorted(plain_carried(web, lot)) for lot in all_lots(web.folk)]


def plain_idle(web):
    """The idle shares, found by selling each one to each holder."""
    now = all_tables(web)
    return [(house, place) for house, place in shares_of(web)
            if all(all_tables(sold(web, house, place, holder)) == now for holder in holders_of(web))]


def plain_twins(web):
    rows = all_tables(web)
    marks = [[house in row for row in rows] for house in range(len(web.houses))]
    return [(one, other) for other in range(len(marks)) for one in range(other) if marks[one] == marks[other]]


class Idle(unittest.TestCase):
    def test_plain_ones(self):
        self.assertEqual(kept(self, idle, EMPTY), [])
        self.assertEqual(kept(self, idle, A), [])
        # Two of three are held by one: the third one makes no difference, but each of the two does.
        self.assertEqual(kept(self, idle, Web(2, ((("f", 0), ("f", 0), ("f", 1)),))), [(0, 2)])
        self.assertEqual(idle(Web(2, ((("f", 0),) * 3,))), [(0, 0), (0, 1), (0, 2)])
        self.assertEqual(idle(Web(1, ((("f", 0),),))), [])
        # The house itself is never with a lot that has nothing else of it.
        self.assertEqual(idle(Web(1, ((("f", 0), ("f", 0), ("h", 0)),))), [(0, 2)])
        # One of its two own shares, sold to the person, would have it carried; the person's share alone carries nothing.
        self.assertEqual(idle(Web(1, ((("f", 0), ("h", 0), ("h", 0)),))), [(0, 0)])
        self.assertEqual(idle(Web(1, ((("h", 0), ("h", 0), ("h", 0)),))), [(0, 0), (0, 1), (0, 2)])
        self.assertEqual(idle(K), plain_idle(K))
        self.assertEqual(idle(C), plain_idle(C))

    def test_shares_that_are_outvoted(self):
        heavy = Web(3, ((("f", 0),) * 5 + (("f", 1), ("f", 2), ("h", 0), ("h", 1)), (("f", 0), ("f", 1), ("f", 2))))
        self.assertEqual([pair for pair in idle(heavy) if pair[0] == 0], [(0, 5), (0, 6), (0, 7), (0, 8)])
        heavier = Web(3, ((("f", 0),) * 7 + (("f", 1), ("f", 2)),))
        self.assertEqual(idle(heavier), [(0, place) for place in range(9)])

    def test_drawn_webs(self):
        count = 0
        for web in random_webs(211, 80, 3, 4) + random_webs(212, 20, 2, 5, 3) + random_webs(213, 30, 1, 3, 7) + PLAIN[:-1]:
            told = kept(self, idle, web)
            self.assertEqual(told, plain_idle(web), (web.folk, web.houses))
            self.assertTrue(all(type(pair) is tuple and len(pair) == 2 for pair in told))
            count += len(told)
        self.assertGreater(count, 100)

    def test_returned_webs(self):
        wide = samples.wide()
        self.assertEqual(kept(self, idle, wide), plain_idle(wide))
        many = samples.many()
        self.assertEqual(kept(self, idle, many), plain_idle(many))

    def test_most_folk_and_houses(self):
        now = all_tables(FULL)
        told = idle(FULL)
        for house, place in shares_of(FULL)[::5]:
            moved = any(all_tables(sold(FULL, house, place, holder)) != now for holder in holders_of(FULL))
            self.assertIs((house, place) in told, not moved)

    def test_large_webs(self):
        chain = samples.chain_of(5)
        self.assertEqual(idle(chain), [])
        ring = samples.ring_of(5)
        self.assertEqual(idle(ring), [])
        knots = samples.knotted(120)
        self.assertEqual(idle(knots), [(house, 0) for house in range(120)])
        self.assertEqual(idle(samples.row_of(200)), [])
        rows = samples.row_of(60)
        house = founded(rows, (("h", 3),) * 3)
        self.assertEqual(idle(house), [(60, 0), (60, 1), (60, 2)])

    def test_in_another_order(self):
        rng = random.Random(214)
        for _ in range(30):
            web = random_web(rng, 3, 4)
            order = tuple(rng.sample(range(4), 4))
            other = renumbered(web, order)
            self.assertEqual(sorted(order[house] for house, _ in idle(other)), [house for house, _ in idle(web)])
            people = tuple(rng.sample(range(3), 3))
            self.assertEqual([house for house, _ in idle(swapped(web, people))], [house for house, _ in idle(web)])
            self.assertEqual(idle(spread(web, 4)), idle(web))


class Twins(unittest.TestCase):
    def test_plain_ones(self):
        self.assertEqual(kept(self, twins, EMPTY), [])
        self.assertEqual(kept(self, twins, A), [])
        self.assertEqual(kept(self, twins, K), [(0, 1)])
        self.assertEqual(kept(self, twins, C), [(0, 1), (0, 2), (1, 2)])
        self.assertEqual(kept(self, twins, CHAIN), [(0, 2), (0, 3), (2, 3)])
        self.assertEqual(kept(self, twins, beside(A, A)), [(0, 1)])
        self.assertEqual(twins(beside(SELF, SELF)), [(0, 1)])

    def test_drawn_webs(self):
        count = 0
        for web in random_webs(215, 120, 4, 6) + PLAIN + [samples.wide(), samples.many()]:
            told = kept(self, twins, web)
            self.assertEqual(told, sorted(plain_twins(web)))
            houses = range(len(web.houses))
            self.assertEqual(told, [(one, other) for one in houses for other in houses
                                    if one < other and table(web, one) == table(web, other)])
            count += len(told)
        self.assertGreater(count, 100)

    def test_large_webs(self):
        told = twins(samples.row_of(300))
        self.assertEqual(len(told), 300 * 299 // 2)
        self.assertEqual(told[:2], [(0, 1), (0, 2)])
        self.assertEqual(told[-1], (298, 299))
        self.assertEqual(len(twins(samples.ring_of(5))), 384 * 383 // 2)
        knots = samples.knotted(40)
        self.assertEqual(twins(founded(knots, (("f", 0),)))[-1], (38, 39))


if __name__ == "__main__":
    unittest.main()
