import itertools
import random
import unittest

from roundowned.doubts import ask_first, dealings, dealt, surely
from roundowned.errors import NoDoubts, NoHouse, NoLot, TooMany
from roundowned.webs import Web
from tests import samples
from tests.samples import (A, C, CHAIN, EMPTY, FULL, K, MIXED, PLAIN, SELF, all_lots, check_errors, error_of,
                           holders_of, kept, nested, picture, plain_resold, random_web, random_webs, shares_of,
                           wrong_but, wrong_houses, wrong_lots)
from tests.test_knots import plain_carried

F0, F1, F2 = ("f", 0), ("f", 1), ("f", 2)


def drawn_doubts(rng, web, shares=3, most=4):
    """Doubts on some shares, whose possible holders may leave out the one that the web tells."""
    told = rng.sample(shares_of(web), min(len(shares_of(web)), rng.randint(0, shares)))
    holders = holders_of(web)
    doubts = {}
    for share in told:
        many = min(len(holders), rng.randint(2, most))
        if many > 1:
            doubts[share] = tuple(sorted(rng.sample(holders, many)))
    return doubts


def all_ways(doubts):
    """All ways to deal the shares in doubt, as dicts."""
    shares = sorted(doubts)
    return [dict(zip(shares, way)) for way in itertools.product(*[doubts[share] for share in shares])]


def plain_flags(web, ways, lot, house):
    return [house in plain_carried(plain_resold(web, way), lot) for way in ways]


def plain_word(flags):
    return "surely" if all(flags) else "perhaps" if any(flags) else "never"


def plain_ask(web, doubts, lot, house):
    ways = all_ways(doubts)
    flags = plain_flags(web, ways, lot, house)
    if plain_word(flags) != "perhaps":
        return None
    told = []
    for share in sorted(doubts):
        numbers = []
        for holder in doubts[share]:
            left = [flag for way, flag in zip(ways, flags) if way[share] == holder]
            numbers.append(len(left) if plain_word(left) == "perhaps" else 0)
        told.append((max(numbers), share))
    return min(told)[1]


def wrong_doubts(web):
    """Things that are no doubts for a web that has a house and two holders."""
    many, shares = len(web.houses), len(web.houses[0])
    two = tuple(holders_of(web)[:2])
    last = ("h", many - 1)
    things = [[((0, 0), two)], (((0, 0), two),), {(many, 0): two}, {(-1, 0): two}, {(0, shares): two}, {(0, -1): two},
              {0: two}, {(0,): two}, {(0, 0, 0): two}, {"00": two}, {("0", 0): two}, {(0, "0"): two}, {(0, None): two},
              {None: two}, {(): two}, {nested(40, tuple): two}, {(0, nested(38, tuple)): two}, {b"00": two},
              {(0, 10 ** 39): two}, {(10 ** 39, 0): two}, {((0, 0),): two}, {NoHouse(): two}, {(0, int): two},
              {(0, 0): two[:1]}, {(0, 0): ()}, {(0, 0): list(two)}, {(0, 0): two[::-1]}, {(0, 0): (two[0], two[0])},
              {(0, 0): two + (two[1],)}, {(0, 0): two + (("h", many),)}, {(0, 0): (("f", web.folk), last)},
              {(0, 0): (("f", 0), ("f", web.folk))}, {(0, 0): (("f", -1), last)}, {(0, 0): None}, {(0, 0): two[0]},
              {(0, 0): "f0"}, {(0, 0): (("f", False), last)}, {(0, 0): (["f", 0], last)}, {(0, 0): (("g", 0), last)},
              {(0, 0): ((b"f", 0), last)}, {(0, 0): (("f", "0"), last)}, {(0, 0): nested(39, tuple)}, {(0, 0): (None, None)},
              {(0, 0): (nested(38, tuple), last)}, {(0, 0): dict.fromkeys(two)}, {(0, 0): (A, A)}, {(0, 0): 0},
              {(0, 0): two, (0, shares): two}, {(0, 0): two, (many, 0): two}, {(0, 0): (("f", 0), last, ("f", 0))}]
    return wrong_but(lambda thing: type(thing) is dict and thing == {}) + things


class Doubts(unittest.TestCase):
    def check(self, web, doubts, lot, house, flags):
        ways = all_ways(doubts)
        self.assertEqual(kept(self, dealt, web, doubts), len(ways))
        word = kept(self, surely, web, doubts, lot, house)
        self.assertEqual(word, plain_word(flags))
        told = kept(self, dealings, web, doubts, lot, house)
        self.assertIs(type(told), tuple)
        self.assertEqual(len(told), 2)
        for dealing, flag in zip(told, (True, False)):
            if flag in flags:
                self.assertIs(type(dealing), dict)
                self.assertIn(dealing, [way for way, other in zip(ways, flags) if other == flag])
            else:
                self.assertIsNone(dealing)
        return word

    def test_plain_ones(self):
        doubts = {(0, 2): (F0, F2)}
        self.assertEqual(surely(A, doubts, (0,), 0), "perhaps")
        self.assertEqual(dealings(A, doubts, (0,), 0), ({(0, 2): F0}, {(0, 2): F2}))
        self.assertEqual(ask_first(A, doubts, (0,), 0), (0, 2))
        self.assertEqual(surely(A, doubts, (0, 1), 0), "surely")
        self.assertEqual(dealings(A, doubts, (0, 1), 0)[1], None)
        self.assertIsNone(ask_first(A, doubts, (0, 1), 0))
        self.assertEqual(surely(A, doubts, (1,), 0), "never")
        self.assertIsNone(dealings(A, doubts, (1,), 0)[0])
        self.assertIsNone(ask_first(A, doubts, (1,), 0))

    def test_empty_doubts(self):
        self.assertEqual(kept(self, dealt, A, {}), 1)
        self.assertEqual(kept(self, dealt, EMPTY, {}), 1)
        self.assertEqual(surely(A, {}, (0, 1), 0), "surely")
        self.assertEqual(surely(A, {}, (0,), 0), "never")
        self.assertEqual(dealings(A, {}, (0, 1), 0), ({}, None))
        self.assertEqual(dealings(A, {}, (0,), 0), (None, {}))
        self.assertIsNone(ask_first(A, {}, (0, 1), 0))

    def test_what_the_web_tells_does_not_count(self):
        doubts = {(0, 0): (F1, F2), (0, 1): (F1, F2)}
        self.assertEqual(surely(A, doubts, (0,), 0), "never")
        self.assertEqual(surely(A, doubts, (1, 2), 0), "surely")
        self.assertEqual(surely(A, doubts, (2,), 0), "perhaps")
        # Once one share is known to be held by 2, it is settled; known to be held by 1, the other one is asked.
        self.assertEqual(ask_first(A, doubts, (2,), 0), (0, 0))
        ring = {(0, 0): (("h", 0), ("h", 1)), (0, 1): (("h", 0), ("h", 1))}
        self.assertEqual(surely(K, ring, (0,), 0), "never")

    def test_shares_are_told_by_their_places_in_the_web(self):
        web = Web(3, ((F0, F1, F2), (F0, F0, ("h", 0))))
        doubts = {(0, 0): (F2, ("h", 1)), (1, 2): (F1, F2), (0, 2): (F0, F1)}
        # Person 0 carries house 1 anyway, and house 0 by this one's share and by one of its own, whoever has (1, 2).
        yes, no = dealings(web, doubts, (0,), 0)
        self.assertEqual((yes[(0, 0)], yes[(0, 2)]), (("h", 1), F0))
        self.assertNotEqual((no[(0, 0)], no[(0, 2)]), (("h", 1), F0))
        self.assertEqual(sorted(yes), sorted(doubts))
        self.assertEqual(ask_first(web, doubts, (0,), 0), (0, 0))

    def test_all_ways(self):
        rng = random.Random(241)
        found = {}
        for web in random_webs(242, 70, 3, 4) + PLAIN[:-1] + [samples.wide(), samples.many()]:
            for _ in range(3):
                doubts = drawn_doubts(rng, web)
                for house in rng.sample(range(len(web.houses)), min(2, len(web.houses))):
                    lot = rng.choice(all_lots(web.folk)[1:])
                    flags = plain_flags(web, all_ways(doubts), lot, house)
                    word = self.check(web, doubts, lot, house, flags)
                    found[word] = found.get(word, 0) + 1
                    self.assertEqual(kept(self, ask_first, web, doubts, lot, house), plain_ask(web, doubts, lot, house))
        self.assertGreater(min(found[word] for word in ("surely", "perhaps", "never")), 40)

    def test_what_to_ask_first(self):
        rng = random.Random(243)
        asked = []
        while len(asked) < 60:
            web = random_web(rng, 3, 3, 5)
            doubts = drawn_doubts(rng, web, 4, 3)
            lot, house = rng.choice(all_lots(3)[1:]), rng.randrange(3)
            told = kept(self, ask_first, web, doubts, lot, house)
            self.assertEqual(told, plain_ask(web, doubts, lot, house))
            if told is not None and len(doubts) > 2:
                asked.append(sorted(doubts).index(told))
        self.assertGreater(min(asked.count(0), asked.count(1), asked.count(2)), 5)

    def test_the_order_of_the_keys_means_nothing(self):
        doubts = {(0, 2): (F0, F2), (0, 0): (F0, F1), (0, 1): (F1, ("h", 0))}
        other = {share: doubts[share] for share in sorted(doubts)}
        for lot in all_lots(3):
            self.assertEqual(surely(A, doubts, lot, 0), surely(A, other, lot, 0))
            self.assertEqual(dealings(A, doubts, lot, 0), dealings(A, other, lot, 0))
            self.assertEqual(ask_first(A, doubts, lot, 0), ask_first(A, other, lot, 0))

    def test_a_thousand_ways(self):
        holders = tuple(holders_of(FULL))
        ten = {(house, 0): holders[:10] for house in range(3)}
        self.assertEqual(dealt(FULL, ten), 1000)
        lot = (0, 1, 2, 3, 4, 5)
        flags = plain_flags(FULL, all_ways(ten), lot, 0)
        self.check(FULL, ten, lot, 0, flags)
        for more in [{**ten, (3, 0): holders[:2]}, {(0, 0): holders[:7], (1, 0): holders[:11], (2, 0): holders[:13]},
                     {(house, 0): holders[:2] for house in range(10)}]:
            many = dealt(FULL, more)
            self.assertEqual(many, len(all_ways(more)))
            self.assertIn(many, (2000, 1001, 1024))
            for function in [surely, dealings, ask_first]:
                self.assertEqual(error_of(function, FULL, more, lot, 0), (TooMany, {"most": 1000}))
                self.assertEqual(error_of(function, FULL, more, [0], 0), (NoLot, {}))
                self.assertEqual(error_of(function, FULL, more, lot, 12), (NoHouse, {}))
                self.assertEqual(error_of(function, FULL, {**more, (0, 3): holders[:2]}, lot, 0), (NoDoubts, {}))
        nearly = {(0, 0): holders[:9], (1, 0): holders[:3], (2, 0): holders, (3, 0): holders[:2]}
        self.assertEqual(dealt(FULL, nearly), 972)
        self.assertEqual(surely(FULL, nearly, (), 0), "never")
        every = {share: holders for share in shares_of(FULL)}
        self.assertEqual(dealt(FULL, every), 18 ** 36)

    def test_large_webs(self):
        web = samples.chain_of(5)
        first = web.houses.index((F0,))
        last = web.houses.index((("h", 10),))
        doubts = {(first, 0): (F0, ("h", 0)), (last, 0): (F0, ("h", 10))}
        self.assertEqual(surely(web, doubts, (0,), last), "perhaps")
        self.assertEqual(dealt(web, doubts), 4)
        self.assertEqual(ask_first(web, doubts, (0,), last), plain_ask(web, doubts, (0,), last))
        self.assertEqual(surely(samples.ring_of(5), {(0, 0): (("h", 0), ("h", 1))}, (0,), 200), "never")

    def test_errors(self):
        for web in [A, CHAIN, MIXED, K, C, samples.many()]:
            doubts = (NoDoubts, {(0, 0): tuple(holders_of(web)[:2])}, wrong_doubts(web))
            check_errors(self, dealt, web, [doubts])
            for function in [surely, dealings, ask_first]:
                check_errors(self, function, web, [doubts, (NoLot, (0,), wrong_lots(web)), (NoHouse, 0, wrong_houses(web))])
                self.assertIsNone(error_of(function, web, {}, (), 0))
        for function in [surely, dealings, ask_first]:
            self.assertEqual(error_of(function, EMPTY, {}, (0,), 0), (NoHouse, {}))
            self.assertEqual(error_of(function, EMPTY, {(0, 0): (F0, F1)}, (0,), 0), (NoDoubts, {}))
            self.assertEqual(error_of(function, SELF, {(0, 0): (F0, F1)}, [0], 0), (NoLot, {}))
        self.assertEqual(error_of(dealt, EMPTY, {(0, 0): (F0, F1)}), (NoDoubts, {}))

    def test_dicts_are_new_each_time(self):
        doubts = {(0, 2): (F0, F2), (0, 1): (F0, F1)}
        before = picture(doubts)
        told = dealings(A, doubts, (0,), 0)
        shown = picture(told)
        for dealing in told:
            self.assertIsNot(dealing, doubts)
            dealing[(0, 2)] = None
            dealing[(9, 9)] = F1
        self.assertEqual(picture(dealings(A, doubts, (0,), 0)), shown)
        self.assertEqual(picture(doubts), before)
        empty = {}
        dealings(A, empty, (0, 1), 0)[0][(0, 0)] = F1
        self.assertEqual(empty, {})
        self.assertEqual(dealings(A, empty, (0, 1), 0), ({}, None))


if __name__ == "__main__":
    unittest.main()
