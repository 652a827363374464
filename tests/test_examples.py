"""The examples of the document."""

import unittest

from roundowned.rings import circles, ring
from roundowned.webs import Web, held

a = Web(3, ((("f", 0), ("f", 1), ("f", 2)),))
k = Web(1, ((("f", 0), ("h", 1), ("h", 1)), (("f", 0), ("h", 0), ("h", 0))))
c = Web(1, ((("h", 1),), (("h", 2),), (("h", 0),)))


class Examples(unittest.TestCase):
    def test_e01(self):
        self.assertEqual(held(k, 0, ("h", 1)), 2)
        self.assertEqual(ring(k), (0, 1))
        self.assertEqual(circles(c), [(0, 1, 2)])


if __name__ == "__main__":
    unittest.main()
