import random
import unittest

from roundowned.errors import NoRest, NotOwn, NoVote
from roundowned.knots import hung
from roundowned.making import beside, put_in
from roundowned.rests import (double, double_votes, greatest_rest, higher, is_own, least_rest, lower, many_rests,
                              rests)
from roundowned.rings import is_ringless
from roundowned.webs import Web
from tests import samples
from tests.samples import (A, C, CHAIN, EMPTY, FULL, K, MIXED, PLAIN, SELF, all_flags, check_errors, check_too_many,
                           error_of, is_flags, kept, nested, random_webs, wrong_flags)
from tests.test_meetings import plain_says


def at_rest(web, vote, boards):
    return all(plain_says(web, vote, boards, house) == flag for house, flag in enumerate(boards))


def plain_rests(web, vote):
    return [boards for boards in all_flags(len(web.houses)) if at_rest(web, vote, boards)]


def above(boards, other):
    return all(flag or not also for flag, also in zip(boards, other))


def own_web(rng):
    """A web in which each of the folk holds one share at most, and houses nowhere more than half, rounded up."""
    folk, many = rng.randint(1, 6), rng.randint(1, 6)
    people = [("f", person) for person in range(folk)]
    rng.shuffle(people)
    houses = []
    for _ in range(many):
        size = rng.choice([1, 1, 3, 3, 5])
        take = min(rng.randint(size // 2, size), 3)
        if take > len(people):
            size, take = 1, 0
        shares = [people.pop() for _ in range(take)]
        houses.append(tuple(sorted(shares + [("h", rng.randrange(many)) for _ in range(size - take)])))
    return Web(folk, tuple(houses))


class Rests(unittest.TestCase):
    def test_plain_ones(self):
        self.assertEqual(kept(self, rests, K, (True,)), [(False, False), (True, True)])
        self.assertEqual(rests(A, (True, False, True)), [(True,)])
        self.assertEqual(rests(C, (True,)), [(False,) * 3, (True,) * 3])
        self.assertEqual(rests(EMPTY, (True, False)), [()])
        self.assertEqual(many_rests(EMPTY, (True, False)), 1)
        self.assertEqual(many_rests(K, (True,)), 2)
        self.assertEqual(greatest_rest(EMPTY, (True, False)), ())
        self.assertEqual(greatest_rest(K, (False,)), (True, True))
        self.assertEqual(least_rest(K, (True,)), (False, False))
        self.assertEqual(greatest_rest(SELF, (True, False)), (True,))
        self.assertEqual(least_rest(CHAIN, (True, False, False)), (True, False, True, True))
        self.assertEqual(many_rests(samples.knotted(12, 6), (True,) * 6), 4096)
        self.assertEqual(rests(samples.knotted(12), (False,)), all_flags(12))

    def test_drawn_webs(self):
        for web in random_webs(31, 60, 3, 6) + PLAIN[:-1] + [samples.wide()]:
            for vote in all_flags(web.folk):
                told = plain_rests(web, vote)
                self.assertEqual(kept(self, rests, web, vote), told)
                self.assertEqual(kept(self, many_rests, web, vote), len(told))
                self.assertEqual(kept(self, greatest_rest, web, vote), max(told, key=sum))
                self.assertEqual(kept(self, least_rest, web, vote), min(told, key=sum))
        self.assertEqual(rests(FULL, (True, False) * 3), plain_rests(FULL, (True, False) * 3))

    def test_the_fourth_fact(self):
        for web in random_webs(32, 60, 4, 6, 3) + PLAIN:
            for vote in all_flags(web.folk)[:8]:
                told = rests(web, vote)
                top, bottom = greatest_rest(web, vote), least_rest(web, vote)
                self.assertIn(top, told)
                self.assertIn(bottom, told)
                self.assertTrue(all(above(top, boards) and above(boards, bottom) for boards in told))
                lot = tuple(person for person in range(web.folk) if vote[person])
                self.assertIs(top == bottom, hung(web, lot) == ())
                self.assertEqual(tuple(k for k in range(len(top)) if top[k] != bottom[k]), hung(web, lot))

    def test_higher_and_lower(self):
        two = Web(1, ((("f", 0), ("h", 0), ("h", 0)), (("f", 0), ("h", 1), ("h", 1)), (("f", 0), ("h", 0), ("h", 1))))
        one, other = (True, False, True), (False, True, True)
        self.assertEqual(kept(self, higher, two, (True,), one, other), (True, True, True))
        self.assertEqual(kept(self, lower, two, (True,), one, other), (False, False, False))
        one, other = (True, False, False), (False, True, False)
        self.assertEqual(kept(self, higher, two, (False,), one, other), (True, True, True))
        self.assertEqual(kept(self, lower, two, (False,), one, other), (False, False, False))
        self.assertEqual(kept(self, higher, EMPTY, (True, True), (), ()), ())
        self.assertEqual(kept(self, lower, EMPTY, (True, True), (), ()), ())
        for web in random_webs(33, 60, 2, 6, 3) + [K, C, SELF, MIXED, samples.wide(), samples.knotted(3)]:
            for vote in all_flags(web.folk):
                told = plain_rests(web, vote)
                for one in told:
                    for other in told:
                        over = [boards for boards in told if above(boards, one) and above(boards, other)]
                        below = [boards for boards in told if above(one, boards) and above(other, boards)]
                        self.assertEqual(kept(self, higher, web, vote, one, other), min(over, key=sum))
                        self.assertEqual(kept(self, lower, web, vote, one, other), max(below, key=sum))

    def test_errors(self):
        for web in [K, MIXED, samples.knotted(12), samples.knotted(13), samples.many()]:
            vote = (True,) * web.folk
            many = len(web.houses)
            slot = (NoVote, vote, wrong_flags(web.folk))
            rest = greatest_rest(web, vote)
            wrong = wrong_flags(many)
            if web == K:
                wrong = wrong + [(True, False), (False, True)]
            for function in [greatest_rest, least_rest]:
                check_errors(self, function, web, [slot])
            for function in [higher, lower]:
                check_errors(self, function, web, [slot, (NoRest, rest, wrong), (NoRest, rest, wrong)])
            for function in [rests, many_rests]:
                if many > 12:
                    check_too_many(self, 12, function, web, [slot])
                else:
                    check_errors(self, function, web, [slot])
        self.assertEqual(error_of(higher, A, (True,) * 3, (True,), (False,)), (NoRest, {}))
        self.assertEqual(error_of(lower, A, (True,) * 3, (False,), (True,)), (NoRest, {}))
        self.assertIsNone(error_of(lower, A, (True,) * 3, (True,), (True,)))
        for thing in wrong_flags(0):
            self.assertFalse(is_flags(thing, 0))
            self.assertEqual(error_of(higher, EMPTY, (True,) * 2, (), thing), (NoRest, {}))
        self.assertEqual(error_of(rests, samples.row_of(13), nested(40, list)), (NoVote, {}))

    def test_large_webs(self):
        web = samples.ring_of(6)
        self.assertEqual(greatest_rest(web, (False,)), (True,) * 768)
        self.assertEqual(least_rest(web, (True,)), (False,) * 768)
        self.assertEqual(double_votes(web), [(False,), (True,)])
        self.assertEqual(higher(web, (True,), (False,) * 768, (True,) * 768), (True,) * 768)
        self.assertEqual(lower(web, (True,), (False,) * 768, (True,) * 768), (False,) * 768)
        chain = samples.chain_of(6)
        self.assertEqual(least_rest(chain, (True,)), (True,) * 768)
        self.assertEqual(greatest_rest(chain, (False,)), (False,) * 768)


class Doubles(unittest.TestCase):
    def test_double_votes(self):
        self.assertEqual(kept(self, double_votes, K), [(False,), (True,)])
        self.assertEqual(kept(self, double_votes, A), [])
        self.assertEqual(kept(self, double_votes, EMPTY), [])
        self.assertEqual(kept(self, double_votes, samples.knotted(13, 2)), all_flags(2))
        for web in random_webs(34, 80, 3, 6) + [C, SELF, CHAIN, MIXED, samples.wide()]:
            told = [vote for vote in all_flags(web.folk) if len(plain_rests(web, vote)) > 1]
            self.assertEqual(kept(self, double_votes, web), told)

    def test_is_own(self):
        for web in [A, C, EMPTY, Web(1, ((("h", 0),),)), Web(1, ((("f", 0),),)), samples.ring_of(3),
                    Web(2, ((("f", 0), ("h", 0), ("h", 1)), (("f", 1), ("h", 0), ("h", 0)))),
                    Web(3, ((("f", 0), ("f", 2), ("h", 0), ("h", 0), ("h", 0)),)),
                    Web(6, ((("f", 0), ("f", 1), ("f", 2), ("f", 4), ("f", 5)), (("h", 0),), (("h", 0),)))]:
            self.assertIs(kept(self, is_own, web), True)
        for web in [K, CHAIN, MIXED, FULL, Web(1, ((("f", 0), ("f", 0), ("f", 0)),)), Web(1, ((("f", 0),), (("f", 0),))),
                    Web(1, ((("h", 0), ("h", 0), ("h", 0)),)), Web(2, ((("f", 0), ("h", 0), ("h", 0), ("h", 0), ("h", 0)),)),
                    Web(2, ((("f", 1),), (("f", 0), ("h", 0), ("h", 0), ("h", 1), ("h", 1)))),
                    beside(A, A), put_in(K, 0, K, 1)]:
            self.assertIs(kept(self, is_own, web), False)

    def test_double(self):
        for web in [A, EMPTY, Web(1, ((("f", 0),), (("h", 0),)))]:
            self.assertIsNone(kept(self, double, web))
        for web in [K, CHAIN, MIXED, FULL, Web(1, ((("f", 0), ("f", 0), ("f", 0)),))]:
            self.assertEqual(error_of(double, web), (NotOwn, {}))
        rng = random.Random(35)
        rings = 0
        for web in [C, samples.ring_of(2)] + [own_web(rng) for _ in range(400)]:
            self.assertIs(is_own(web), True)
            told = kept(self, double, web)
            self.assertIs(told is None, is_ringless(web))
            if told is not None:
                rings += 1
                self.assertIs(type(told), tuple)
                vote, one, other = told
                self.assertTrue(is_flags(vote, web.folk) and is_flags(one, len(web.houses)))
                self.assertTrue(is_flags(other, len(web.houses)) and one != other)
                self.assertTrue(at_rest(web, vote, one) and at_rest(web, vote, other))
        self.assertGreater(rings, 100)


if __name__ == "__main__":
    unittest.main()
