import random
import unittest

from roundowned.carrying import carried
from roundowned.errors import (NoBoards, NoEnd, NoFlag, NoHolder, NoHouse, NoLot, NoPerson, NoShare, NoShares,
                               NothingDone, NoVote, TooMany)
from roundowned.making import beside, founded, sold
from roundowned.town import Town
from roundowned.webs import Web
from tests import samples
from tests.samples import (A, C, CHAIN, EMPTY, FULL, K, MIXED, PLAIN, SELF, WRONG, all_lots, check_errors, error_of,
                           holders_of, integer, nested, picture, random_web, wrong_but, wrong_flags, wrong_houses,
                           wrong_lots, wrong_people)
from tests.test_meetings import plain_says
from tests.test_webs import is_holder

F0 = ("f", 0)


class Stop(Exception):
    """An error of a trial."""


def seen(town):
    return town.web(), town.vote(), town.boards(), town.depth()


def town_of(web, flag=True):
    return Town(web, (flag,) * web.folk, (flag,) * len(web.houses))


def plain_settle(web, vote, boards):
    """The row of meetings and the boards behind rounds until one changes nothing; None if they come again."""
    row, ahead = (), []
    while True:
        if boards in ahead:
            return None
        ahead.append(boards)
        for house in range(len(boards)):
            boards = boards[:house] + (plain_says(web, vote, boards, house),) + boards[house + 1:]
        if boards == ahead[-1]:
            return row, boards
        row += tuple(range(len(boards)))


def random_call(rng, town):
    """A drawn call that a town takes, as a pair of the name of a method and arguments."""
    web = town.web()
    houses = range(len(web.houses))
    name = rng.choice(["meet", "meet", "say", "sell", "found", "settle"])
    if name in ("meet", "sell") and not houses:
        name = "found"
    if name == "meet":
        return name, (rng.choice(houses),)
    if name == "say":
        return name, (rng.randrange(web.folk), rng.choice((True, False)))
    if name == "sell":
        house = rng.choice(houses)
        return name, (house, rng.randrange(len(web.houses[house])), rng.choice(holders_of(web)))
    if name == "found":
        holders = holders_of(web) + [("h", len(houses))]
        shares = tuple(sorted(rng.choice(holders) for _ in range(rng.choice((1, 3, 5)))))
        return name, (shares, rng.choice((True, False)))
    return name, ()


class Led(unittest.TestCase):
    def test_plain_ones(self):
        town = Town(K, (True,), (True, False))
        self.assertEqual(seen(town), (K, (True,), (True, False), 0))
        self.assertIs(town.meet(0), False)
        self.assertEqual(town.boards(), (False, False))
        self.assertIs(town.meet(0), False)
        self.assertEqual(town.depth(), 2)
        self.assertIsNone(town.say(0, False))
        self.assertEqual(town.vote(), (False,))
        self.assertIsNone(town.sell(0, 1, F0))
        self.assertEqual(town.web(), sold(K, 0, 1, F0))
        self.assertIsNone(town.found((F0, ("h", 1), ("h", 2)), True))
        self.assertEqual(town.web(), founded(sold(K, 0, 1, F0), (F0, ("h", 1), ("h", 2))))
        self.assertEqual(town.boards(), (False, False, True))
        self.assertEqual(town.settle(), (0, 1, 2))
        self.assertEqual(town.boards(), (False, False, False))
        self.assertEqual(town.settle(), ())
        self.assertEqual(town.carried((0,)), (0, 1, 2))
        self.assertEqual(town.carried(()), ())
        self.assertEqual(town.depth(), 7)
        self.assertIsNone(town.back())
        self.assertEqual(town.boards(), (False, False, False))
        self.assertIsNone(town.back())
        self.assertEqual(town.boards(), (False, False, True))
        for _ in range(5):
            town.back()
        self.assertEqual(seen(town), (K, (True,), (True, False), 0))
        self.assertEqual(error_of(town.back), (NothingDone, {}))
        self.assertEqual(seen(town), (K, (True,), (True, False), 0))

    def test_calls_that_change_nothing_can_be_taken_back(self):
        town = Town(A, (True, True, True), (True,))
        town.meet(0)
        town.say(1, True)
        town.sell(0, 2, ("f", 2))
        town.settle()
        self.assertEqual(seen(town), (A, (True, True, True), (True,), 4))
        for depth in (3, 2, 1, 0):
            town.back()
            self.assertEqual(town.depth(), depth)
        self.assertEqual(error_of(town.back), (NothingDone, {}))

    def test_what_is_told_is_not_done(self):
        town = town_of(MIXED)
        town.web(), town.vote(), town.boards(), town.carried((0,)), town.depth(), town.copy()
        self.assertEqual(town.trying(lambda other: other.meet(0)), True)
        self.assertEqual(town.depth(), 0)
        self.assertEqual(error_of(town.back), (NothingDone, {}))

    def test_drawn_calls(self):
        rng = random.Random(271)
        for web in [EMPTY, A, K, C, MIXED, CHAIN, samples.wide(), samples.many()] + [random_web(rng, 3, 5) for _ in range(8)]:
            town = town_of(web, rng.choice((True, False)))
            states = [seen(town)]
            for _ in range(40):
                if rng.random() < 0.3 and len(states) > 1:
                    town.back()
                    states.pop()
                    self.assertEqual(seen(town), states[-1])
                    continue
                name, told = random_call(rng, town)
                now, vote, boards, depth = states[-1]
                if name == "found" and len(now.houses) >= 40:
                    continue
                if name == "settle":
                    end = plain_settle(now, vote, boards)
                    if end is None:
                        self.assertEqual(error_of(town.settle), (NoEnd, {}))
                        self.assertEqual(seen(town), states[-1])
                        continue
                    self.assertEqual(town.settle(), end[0])
                    boards = end[1]
                elif name == "meet":
                    flag = plain_says(now, vote, boards, told[0])
                    self.assertIs(town.meet(*told), flag)
                    boards = boards[:told[0]] + (flag,) + boards[told[0] + 1:]
                elif name == "say":
                    self.assertIsNone(town.say(*told))
                    vote = vote[:told[0]] + (told[1],) + vote[told[0] + 1:]
                elif name == "sell":
                    self.assertIsNone(town.sell(*told))
                    now = sold(now, *told)
                else:
                    self.assertIsNone(town.found(*told))
                    now, boards = founded(now, told[0]), boards + (told[1],)
                states.append((now, vote, boards, depth + 1))
                self.assertEqual(seen(town), states[-1])
                lot = rng.choice(all_lots(now.folk))
                self.assertEqual(town.carried(lot), carried(now, lot))
            while len(states) > 1:
                town.back()
                states.pop()
                self.assertEqual(seen(town), states[-1])
            self.assertEqual(error_of(town.back), (NothingDone, {}))

    def test_a_town_keeps_what_it_was_made_of(self):
        houses = K.houses
        town = Town(K, (True,), (True, False))
        town.sell(0, 0, ("h", 0))
        town.meet(0)
        self.assertEqual(K.houses, houses)
        other = Town(K, (True,), (True, False))
        self.assertEqual(seen(other), (K, (True,), (True, False), 0))
        self.assertNotEqual(town, other)
        for thing in WRONG:
            self.assertFalse(town == thing)

    def test_long_rows(self):
        town = town_of(MIXED)
        for k in range(1500):
            town.meet(k % 5)
        self.assertEqual(town.depth(), 1500)
        other = town.copy()
        for _ in range(1500):
            town.back()
        self.assertEqual(seen(town), (MIXED, (True,) * 3, (True,) * 5, 0))
        self.assertEqual(other.depth(), 1500)


class Settling(unittest.TestCase):
    def test_at_rest(self):
        for web in [EMPTY, A, K, C, CHAIN]:
            town = town_of(web)
            self.assertEqual(town.settle(), ())
            self.assertEqual(seen(town), (web, (True,) * web.folk, (True,) * len(web.houses), 1))
            town.back()
            self.assertEqual(town.depth(), 0)

    def test_rounds(self):
        # Each round brings the flag on by one house, if those behind meet ahead of those that hold them.
        web = Web(1, ((("h", 1),), (("h", 2),), (F0,)))
        town = Town(web, (True,), (False, False, False))
        self.assertEqual(town.settle(), (0, 1, 2) * 3)
        self.assertEqual(seen(town), (web, (True,), (True,) * 3, 1))
        town = Town(samples.row_of(5), (True,), (False,) * 5)
        self.assertEqual(town.settle(), (0, 1, 2, 3, 4))
        # The slowest of those that have nothing of one another tells how many rounds there are.
        town = Town(beside(samples.row_of(5), web), (True,), (False,) * 8)
        self.assertEqual(town.settle(), tuple(range(8)) * 3)

    def test_round_about_for_ever(self):
        town = Town(C, (True,), (False, True, False))
        town.say(0, False)
        before = seen(town)
        self.assertEqual(error_of(town.settle), (NoEnd, {}))
        self.assertEqual(seen(town), before)
        two = Web(1, ((("h", 1),), (("h", 0),)))
        self.assertEqual(Town(two, (True,), (True, False)).settle(), (0, 1))
        town = Town(beside(samples.row_of(3), C), (False,), (True, True, True, False, True, False))
        self.assertEqual(error_of(town.settle), (NoEnd, {}))
        self.assertEqual(seen(town)[2:], ((True, True, True, False, True, False), 0))
        self.assertEqual(error_of(town.back), (NothingDone, {}))

    def test_drawn_webs(self):
        rng = random.Random(272)
        found = []
        for _ in range(200):
            web = random_web(rng, 2, rng.randint(0, 6), rng.choice((1, 3)))
            vote = tuple(rng.choice((True, False)) for _ in range(2))
            boards = tuple(rng.choice((True, False)) for _ in web.houses)
            town = Town(web, vote, boards)
            end = plain_settle(web, vote, boards)
            found.append(None if end is None else len(end[0]) // max(1, len(boards)))
            if end is None:
                self.assertEqual(error_of(town.settle), (NoEnd, {}))
                self.assertEqual(seen(town), (web, vote, boards, 0))
            else:
                self.assertEqual(town.settle(), end[0])
                self.assertEqual(seen(town), (web, vote, end[1], 1))
        self.assertLessEqual({None, 0, 1, 2}, set(found))

    def test_large_webs(self):
        chain = samples.chain_of(5)
        town = town_of(chain)
        self.assertEqual(town.settle(), ())
        town = Town(chain, (True,), (False,) * 384)
        self.assertEqual(len(town.settle()) % 384, 0)
        self.assertEqual(town.boards(), (True,) * 384)
        apart = beside(samples.knotted(300), samples.chain_of(6))
        town = Town(apart, (True,), (False,) * len(apart.houses))
        town.settle()
        self.assertEqual(town.boards(), (False,) * 300 + (True,) * 768)
        # Rings of which each comes again after another number of rounds.
        rings = Web(1, ())
        for many in (3, 5, 7, 11, 13, 17, 19, 23, 29, 31):
            ring = Web(1, ())
            ring.houses = tuple((("h", (k + 1) % many),) for k in range(many))
            rings = beside(rings, ring)
        boards = tuple(k % 2 == 0 for k in range(len(rings.houses)))
        self.assertEqual(error_of(Town(rings, (True,), boards).settle), (NoEnd, {}))


class Copies(unittest.TestCase):
    def test_copies_go_on_apart(self):
        town = Town(K, (True,), (True, False))
        town.meet(0)
        town.say(0, False)
        other = town.copy()
        self.assertIsInstance(other, Town)
        self.assertIsNot(other, town)
        self.assertEqual(seen(other), seen(town))
        other.meet(1)
        other.sell(0, 0, ("h", 0))
        self.assertEqual(seen(town), (K, (False,), (False, False), 2))
        town.back()
        town.back()
        self.assertEqual(seen(town), (K, (True,), (True, False), 0))
        self.assertEqual(other.depth(), 4)
        for _ in range(4):
            other.back()
        self.assertEqual(seen(other), (K, (True,), (True, False), 0))
        self.assertEqual(error_of(other.back), (NothingDone, {}))
        town.meet(1)
        self.assertEqual(other.depth(), 0)
        third = other.copy()
        self.assertEqual(error_of(third.back), (NothingDone, {}))

    def test_copies_of_copies(self):
        town = town_of(A)
        towns = []
        for k in range(6):
            towns.append(town)
            town = town.copy()
            town.say(k % 3, k % 2 == 0)
        self.assertEqual([one.depth() for one in towns], list(range(6)))
        towns[3].back()
        self.assertEqual([one.depth() for one in towns], [0, 1, 2, 2, 4, 5])


class Trials(unittest.TestCase):
    def setUp(self):
        self.town = Town(K, (True,), (True, False))
        self.town.meet(0)
        self.town.say(0, False)
        self.before = seen(self.town)

    def check_behind(self):
        self.assertEqual(seen(self.town), self.before)
        other = self.town.copy()
        other.back()
        self.assertEqual(seen(other), (K, (True,), (False, False), 1))
        other.back()
        self.assertEqual(seen(other), (K, (True,), (True, False), 0))
        self.assertEqual(error_of(other.back), (NothingDone, {}))

    def do_much(self, town):
        town.meet(1)
        town.found((F0,), True)
        town.sell(0, 0, ("h", 2))
        town.say(0, True)
        town.settle()

    def test_what_the_function_returns_is_returned(self):
        for thing in [None, 7, [1], "x", K, (), self.town]:
            self.assertIs(self.town.trying(lambda town: thing), thing)
            self.check_behind()

    def test_the_function_is_called_with_the_town(self):
        told = []
        self.town.trying(told.append)
        self.assertEqual(len(told), 1)
        self.assertIs(told[0], self.town)
        self.assertEqual(self.town.trying(seen), self.before)

    def test_everything_is_put_back(self):
        def action(town):
            self.do_much(town)
            return seen(town)
        web, vote, boards, depth = self.town.trying(action)
        self.assertEqual((len(web.houses), vote, len(boards), depth), (3, (True,), 3, 7))
        self.check_behind()

    def test_errors_go_on(self):
        for error in [Stop(), KeyError("k"), NoEnd(), KeyboardInterrupt(), SystemExit(3)]:
            def action(town):
                self.do_much(town)
                raise error
            with self.assertRaises(type(error)) as raised:
                self.town.trying(action)
            self.assertIs(raised.exception, error)
            self.check_behind()
        with self.assertRaises(NoHouse):
            self.town.trying(lambda town: town.meet(9))
        self.check_behind()
        with self.assertRaises(TypeError):
            self.town.trying(lambda: None)
        self.check_behind()

    def test_going_back_beyond_the_beginning(self):
        def action(town):
            town.meet(1)
            for _ in range(3):
                town.back()
            told = seen(town)
            town.say(0, False)
            town.say(0, True)
            return told
        self.assertEqual(self.town.trying(action), (K, (True,), (True, False), 0))
        self.check_behind()

        def fails(town):
            town.back()
            town.back()
            town.back()
        with self.assertRaises(NothingDone):
            self.town.trying(fails)
        self.check_behind()

    def test_trials_inside_trials(self):
        depths = []

        def inner(town):
            depths.append(town.depth())
            for _ in range(4):
                town.back()
            town.meet(0)
            raise Stop()

        def outer(town):
            town.meet(1)
            town.found((F0,), False)
            now = seen(town)
            try:
                town.trying(inner)
            except Stop:
                depths.append(town.depth())
            self.assertEqual(seen(town), now)
            town.back()
            return town.trying(lambda other: other.trying(lambda third: third.meet(0) or third.depth()))
        self.assertEqual(self.town.trying(outer), 4)
        self.assertEqual(depths, [4, 4])
        self.check_behind()

    def test_the_town_by_an_outer_name(self):
        def action(_):
            self.do_much(self.town)
            self.town.back()
            return self.town.depth()
        self.assertEqual(self.town.trying(action), 6)
        self.check_behind()

    def test_copies_made_in_a_trial_stay(self):
        copies = []

        def action(town):
            self.do_much(town)
            copies.append(town.copy())
            town.back()
        self.town.trying(action)
        self.check_behind()
        self.assertEqual(copies[0].depth(), 7)
        for _ in range(5):
            copies[0].back()
        self.assertEqual(seen(copies[0]), self.before)

    def test_going_on_behind_a_trial(self):
        self.town.trying(self.do_much)
        self.town.meet(1)
        self.assertEqual(self.town.depth(), 3)
        self.town.back()
        self.check_behind()


class Wrong(unittest.TestCase):
    def unchanged(self, town, error, name, *told):
        before = seen(town)
        self.assertEqual(error_of(getattr(town, name), *told), (error, {}), (name, told))
        self.assertEqual(seen(town), before)

    def test_constructing(self):
        for web in [A, K, MIXED, FULL, samples.many()]:
            many = len(web.houses)
            check_errors(self, Town, web, [(NoVote, (True,) * web.folk, wrong_flags(web.folk)),
                                           (NoBoards, (True,) * many, wrong_flags(many))])
        self.assertEqual(error_of(Town, EMPTY, (True, True), (True,)), (NoBoards, {}))
        self.assertEqual(error_of(Town, EMPTY, (True,), (True,)), (NoVote, {}))
        self.assertIsNone(error_of(Town, EMPTY, (True, True), ()))

    def test_methods(self):
        flags = wrong_but(lambda thing: type(thing) is bool) + [0, 1, "y", "True"]
        for web in [A, K, MIXED, samples.many()]:
            town = town_of(web)
            town.say(0, False)
            for thing in wrong_houses(web):
                self.unchanged(town, NoHouse, "meet", thing)
                for other in (0, None, nested(40, list)):
                    self.unchanged(town, NoHouse, "sell", thing, other, other)
            for thing in wrong_people(web):
                for other in (True, None, nested(40, list)):
                    self.unchanged(town, NoPerson, "say", thing, other)
            for thing in flags:
                self.unchanged(town, NoFlag, "say", 0, thing)
                self.unchanged(town, NoFlag, "found", (F0,), thing)
            many = len(web.houses[0])
            for thing in wrong_but(lambda thing: integer(thing, many)) + [many, -1]:
                for other in (F0, None, nested(40, list)):
                    self.unchanged(town, NoShare, "sell", 0, thing, other)
            for thing in wrong_but(lambda thing: is_holder(web, thing)) + [("f", web.folk), ("h", len(web.houses))]:
                self.unchanged(town, NoHolder, "sell", 0, 0, thing)
            for thing in WRONG + [[F0], (F0, F0), (("f", web.folk),), (("h", len(web.houses) + 1),), (F0,) * 17,
                                  (("h", 0), F0, F0), F0, (list(F0),)]:
                for other in (True, None):
                    self.unchanged(town, NoShares, "found", thing, other)
            for thing in wrong_lots(web):
                self.unchanged(town, NoLot, "carried", thing)
        self.unchanged(town_of(EMPTY), NoHouse, "meet", 0)
        self.unchanged(town_of(EMPTY), NoHouse, "sell", 0, 0, F0)

    def test_forty_houses(self):
        town = town_of(samples.knotted(39))
        self.assertIsNone(town.found((F0, ("h", 39), ("h", 39)), False))
        self.assertEqual(len(town.boards()), 40)
        for flag in (True, False):
            before = seen(town)
            self.assertEqual(error_of(town.found, (F0,), flag), (TooMany, {"most": 40}))
            self.assertEqual(seen(town), before)
        self.unchanged(town, NoShares, "found", (), True)
        self.unchanged(town, NoShares, "found", [F0], None)
        self.unchanged(town, NoFlag, "found", (F0,), None)
        self.unchanged(town, NoFlag, "found", (("h", 40),), 1)
        town.back()
        self.assertIsNone(town.found((F0,), True))
        large = town_of(samples.chain_of(3))
        self.assertEqual(error_of(large.found, (F0,), True), (TooMany, {"most": 40}))
        self.assertEqual(large.depth(), 0)

    def test_arguments_are_left_as_they_are(self):
        web, vote, boards, shares = MIXED, (True,) * 3, (True,) * 5, (F0, ("h", 5), ("h", 5))
        before = picture((web, vote, boards, shares))
        town = Town(web, vote, boards)
        town.found(shares, True)
        town.sell(5, 0, ("h", 0))
        town.say(1, False)
        town.settle()
        self.assertEqual(picture((web, vote, boards, shares)), before)
        self.assertEqual(len(PLAIN), 8)
        self.assertEqual(SELF.folk, 2)


if __name__ == "__main__":
    unittest.main()
