"""The examples of the document."""

import unittest

from roundowned.building import is_made
from roundowned.buying import cheapest
from roundowned.callers import chance
from roundowned.carrying import carried
from roundowned.counting import many_tables, wider
from roundowned.doubts import surely
from roundowned.knots import is_knot, verdict
from roundowned.lots import least_lots, says_most, turns
from roundowned.meetings import met, says
from roundowned.minutes import told
from roundowned.orders import end_row, ends
from roundowned.rests import double_votes, rests
from roundowned.rings import circles, ring
from roundowned.tables import kind, open_lot
from roundowned.texts import web_text
from roundowned.unrest import unrest
from roundowned.webs import Web, held

a = Web(3, ((("f", 0), ("f", 1), ("f", 2)),))
k = Web(1, ((("f", 0), ("h", 1), ("h", 1)), (("f", 0), ("h", 0), ("h", 0))))
c = Web(1, ((("h", 1),), (("h", 2),), (("h", 0),)))


class Examples(unittest.TestCase):
    def test_e01(self):
        self.assertEqual(held(k, 0, ("h", 1)), 2)
        self.assertEqual(ring(k), (0, 1))
        self.assertEqual(circles(c), [(0, 1, 2)])

    def test_e02(self):
        self.assertIs(says(k, (True,), (False, False), 0), False)
        self.assertEqual(met(k, (True,), (True, False), 1), (True, True))

    def test_e03(self):
        self.assertEqual(carried(a, (0, 1)), (0,))
        self.assertEqual(verdict(k, (0,), 0), "hung")
        self.assertIs(is_knot(k, (0,), (0, 1)), True)

    def test_e04(self):
        self.assertEqual(least_lots(a, 0), [(0, 1), (0, 2), (1, 2)])
        self.assertEqual(turns(a, 0), (2, 2, 2))
        self.assertEqual(says_most(a, 0), ((1, 3), (1, 3), (1, 3)))

    def test_e05(self):
        self.assertEqual(rests(k, (True,)), [(False, False), (True, True)])
        self.assertEqual(double_votes(k), [(False,), (True,)])

    def test_e06(self):
        self.assertEqual(ends(k, (True,), (True, False)), [(False, False), (True, True)])
        self.assertEqual(end_row(k, (True,), (True, False), (True, True)), (1,))
        self.assertEqual(chance(k, (True,), (True, False), 0), (1, 2))

    def test_e07(self):
        self.assertIs(unrest(c, (True,), (True, False, False)) is None, False)
        self.assertIs(unrest(k, (True,), (True, False)) is None, True)

    def test_e08(self):
        self.assertEqual(kind(3, ((0, 1), (0, 2), (1, 2))), "outright")
        self.assertEqual(kind(2, ((0, 1),)), "round")
        self.assertEqual(open_lot(2, ((0, 1),)), (0,))

    def test_e09(self):
        self.assertEqual([many_tables(folk, "outright") for folk in range(1, 6)], [1, 2, 4, 12, 81])
        self.assertEqual(many_tables(4, "round"), 81)
        self.assertEqual(wider(2, ((0, 1),)), ((0, 1), (0, 2), (1, 2)))

    def test_e10(self):
        self.assertIs(is_made(2, ((0, 1),), Web(2, ((("f", 0), ("f", 1), ("h", 0)),))), True)

    def test_e11(self):
        self.assertEqual(cheapest(a, (0,), 0, ((5, 2, 3),)), 2)

    def test_e12(self):
        self.assertEqual(surely(a, {(0, 2): (("f", 0), ("f", 2))}, (0,), 0), "perhaps")

    def test_e13(self):
        self.assertEqual(told(3, [((True, False, False), True)], (True, False, True)), "yes")

    def test_e14(self):
        self.assertEqual(web_text(k), "folk 1\nhouse f0 h1 h1\nhouse f0 h0 h0\n")


if __name__ == "__main__":
    unittest.main()
