import itertools
import unittest

from roundowned.making import beside, founded
from roundowned.rings import circles, is_ringless, layers, ring
from roundowned.webs import Web
from tests import samples
from tests.samples import A, C, CHAIN, EMPTY, FULL, K, MIXED, PLAIN, SELF, kept, random_webs


def owns(web, one, other):
    return ("h", one) in web.houses[other]


def rings(web):
    """All rings in which no house stands twice."""
    return [row for many in range(1, len(web.houses) + 1) for row in itertools.permutations(range(len(web.houses)), many)
            if all(owns(web, row[k - 1], row[k]) for k in range(many))]


def plain_circles(web):
    houses = range(len(web.houses))
    into = [[owns(web, one, other) for other in houses] for one in houses]
    for by in houses:
        for one in houses:
            for other in houses:
                into[one][other] = into[one][other] or into[one][by] and into[by][other]
    return sorted({tuple(k for k in houses if into[one][k] and into[k][one]) for one in houses if into[one][one]})


def plain_layers(web):
    """By the words: a house is in the first layer whose earlier layers hold all that owns into it."""
    found = []
    left = list(range(len(web.houses)))
    while left:
        placed = [house for layer in found for house in layer]
        layer = [house for house in left if all(one in placed for kind, one in web.houses[house] if kind == "h")]
        if not layer:
            return None
        found.append(tuple(layer))
        left = [house for house in left if house not in layer]
    return tuple(found)


class Rings(unittest.TestCase):
    def check(self, web, none, of_layers, of_circles, least):
        self.assertIs(kept(self, is_ringless, web), none)
        self.assertEqual(kept(self, layers, web), of_layers)
        self.assertEqual(kept(self, circles, web), of_circles)
        self.assertEqual(kept(self, ring, web), least)

    def test_plain_ones(self):
        self.check(EMPTY, True, (), [], None)
        self.check(A, True, ((0,),), [], None)
        self.check(K, False, None, [(0, 1)], (0, 1))
        self.check(C, False, None, [(0, 1, 2)], (0, 2, 1))
        self.check(SELF, False, None, [(0,)], (0,))
        self.check(CHAIN, True, ((0,), (1,), (2,), (3,)), [], None)
        self.check(MIXED, False, None, [(0, 1), (2, 3), (4,)], (4,))
        self.check(FULL, False, None, [tuple(range(12))], (0,))

    def test_layers(self):
        web = Web(1, ((("h", 2),), (("f", 0),), (("f", 0),), (("h", 1), ("h", 1), ("h", 2)), (("f", 0), ("h", 0), ("h", 1))))
        self.check(web, True, ((1, 2), (0, 3), (4,)), [], None)
        web = Web(1, ((("h", 3),), (("h", 0),), (("f", 0),), (("h", 2),)))
        self.check(web, True, ((2,), (3,), (0,), (1,)), [], None)

    def test_the_row_goes_the_way_of_owning(self):
        self.assertEqual(ring(Web(1, ((("h", 2),), (("h", 0),), (("h", 1),)))), (0, 1, 2))
        self.assertEqual(ring(Web(1, ((("h", 1),), (("h", 2),), (("h", 0),)))), (0, 2, 1))

    def test_the_shortest_and_of_these_the_least(self):
        web = Web(1, ((("h", 2),), (("h", 0), ("h", 3), ("h", 4)), (("h", 1),), (("h", 1),), (("h", 1),)))
        self.check(web, False, None, [(0, 1, 2, 3, 4)], (1, 3))
        web = Web(1, ((("f", 0),), (("h", 3),), (("h", 1),), (("h", 2), ("h", 4), ("h", 5)), (("h", 1),), (("h", 1),)))
        self.check(web, False, None, [(1, 2, 3, 4, 5)], (1, 2, 3))

    def test_drawn_webs(self):
        for web in random_webs(1, 150) + random_webs(2, 30, 1, 6, 3):
            found = rings(web)
            self.assertIs(is_ringless(web), not found)
            self.assertEqual(ring(web), min(found, key=lambda row: (len(row), row)) if found else None)
            self.assertEqual(layers(web), plain_layers(web))
            self.assertEqual(circles(web), plain_circles(web))

    def test_larger_drawn_webs(self):
        for web in random_webs(3, 40, 2, 12, 3) + PLAIN + [samples.wide(), samples.many()]:
            self.assertEqual(layers(web), plain_layers(web))
            self.assertEqual(circles(web), plain_circles(web))
            self.assertIs(is_ringless(web), layers(web) is not None)
            self.assertIs(ring(web) is None, is_ringless(web))

    def test_layers_as_told(self):
        for web in random_webs(4, 60, 2, 9):
            told = layers(web)
            if told is not None:
                self.assertEqual(sorted(house for layer in told for house in layer), list(range(len(web.houses))))
                for at, layer in enumerate(told):
                    self.assertEqual(layer, tuple(sorted(layer)))
                    for house in layer:
                        owners = {one for kind, one in web.houses[house] if kind == "h"}
                        self.assertLessEqual(owners, {one for earlier in told[:at] for one in earlier})
                        self.assertTrue(at == 0 or owners & set(told[at - 1]))

    def test_large_webs(self):
        web = samples.chain_of(8)
        self.assertEqual(len(web.houses), 3072)
        self.assertIs(is_ringless(web), True)
        self.assertEqual(len(layers(web)), 3072)
        self.assertEqual(layers(web)[-1], (11,))
        self.assertEqual(circles(web), [])
        self.assertIsNone(ring(web))
        web = samples.ring_of(6)
        self.assertIs(is_ringless(web), False)
        self.assertIsNone(layers(web))
        self.assertEqual(circles(web), [tuple(range(768))])
        self.assertEqual(len(ring(web)), 768)
        self.assertEqual(ring(beside(web, founded(web, (("f", 0), ("h", 768), ("h", 768))))), (2 * 768,))
        self.assertEqual(len(circles(beside(web, web))), 2)


if __name__ == "__main__":
    unittest.main()
