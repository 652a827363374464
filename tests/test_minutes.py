import random
import unittest

from roundowned.building import made
from roundowned.counting import tables
from roundowned.errors import NoFolk, NoMinutes, NoTable, NoVote
from roundowned.minutes import best_vote, clash, fitting, told
from roundowned.rests import rests
from tests.samples import (A, WRONG, all_flags, by_table, check_calls, error_of, is_flags, kept, nested, wrong_but,
                           wrong_flags, wrong_folks)


def yes_lot(vote):
    return tuple(person for person, flag in enumerate(vote) if flag)


def fits(table, minutes):
    return all(by_table(table, yes_lot(vote)) == flag for vote, flag in minutes)


def plain_word(folk, minutes, vote):
    flags = [by_table(table, yes_lot(vote)) for table in tables(folk, "outright") if fits(table, minutes)]
    return "none" if not flags else "yes" if all(flags) else "open" if any(flags) else "no"


def plain_clash(folk, minutes):
    pairs = [(first, second) for first in range(len(minutes)) for second in range(first, len(minutes))
             if not any(fits(table, [minutes[first], minutes[second]]) for table in tables(folk, "outright"))]
    return pairs[0] if pairs else None


def plain_best(folk, minutes):
    left = [table for table in tables(folk, "outright") if fits(table, minutes)]
    numbers = []
    for vote in all_flags(folk):
        flags = [by_table(table, yes_lot(vote)) for table in left]
        numbers.append((max(flags.count(True), flags.count(False)), vote))
    return min(numbers)[1]


def drawn_minutes(rng, folk, many, wrong):
    """Minutes of a drawn outright table, some of them turned about; as a list or a tuple."""
    table = rng.choice(tables(folk, "outright"))
    pairs = []
    for k in range(many):
        vote = tuple(rng.choice((True, False)) for _ in range(folk))
        pairs.append((vote, by_table(table, yes_lot(vote)) != (k < wrong)))
    rng.shuffle(pairs)
    return rng.choice([list, tuple])(pairs)


def wrong_minutes(folk):
    vote = (True,) * folk
    pair = (vote, True)
    things = [pair, [pair, None], [list(pair)], [(list(vote), True)], [(vote, 1)], [(vote, None)], [(vote, "y")], [(vote,)],
              [(vote, True, True)], [((True,) * (folk + 1), True)], [((True,) * (folk - 1), True)], [((1,) * folk, True)],
              [pair] * 61, (pair,) * 61, [("y" * folk, True)], {vote: True}, {0: pair}, "yy y", [vote], [(True, vote)],
              [pair, (vote, nested(37, tuple))], [(nested(38, tuple), True)], nested(40, list), [A], [(A, True)], (pair, [pair]),
              [[pair]], ((pair,),), [pair] * 60 + [None], b"y", [(b"y" * folk, True)], [(vote[:-1] + (None,), True)]]
    right = lambda thing: (type(thing) in (list, tuple) and len(thing) <= 60
                           and all(type(one) is tuple and len(one) == 2 and is_flags(one[0], folk) and type(one[1]) is bool
                                   for one in thing))
    return wrong_but(right) + [thing for thing in things if not right(thing)]


class Minutes(unittest.TestCase):
    def check(self, folk, minutes, votes):
        left = [table for table in tables(folk, "outright") if fits(table, minutes)]
        self.assertEqual(kept(self, fitting, folk, minutes), left)
        for vote in votes:
            self.assertEqual(kept(self, told, folk, minutes, vote), plain_word(folk, minutes, vote))
        pair = plain_clash(folk, minutes)
        self.assertEqual(kept(self, clash, folk, minutes), pair)
        # The tenth fact.
        self.assertIs(bool(left), pair is None)
        if left:
            self.assertEqual(kept(self, best_vote, folk, minutes), plain_best(folk, minutes))
        else:
            self.assertEqual(error_of(best_vote, folk, minutes), (NoTable, {}))
        return pair

    def test_plain_ones(self):
        self.assertEqual(told(3, [((True, False, False), True)], (True, False, True)), "yes")
        self.assertEqual(fitting(3, [((True, False, False), True)]), [((0,),)])
        self.assertEqual(fitting(3, [((True, False, False), False)]), [((0, 1), (0, 2), (1, 2)), ((1,),), ((2,),)])
        self.assertEqual(told(3, [((True, False, False), False)], (True, False, False)), "no")
        self.assertEqual(told(3, [((True, False, False), False)], (False, True, True)), "yes")
        self.assertEqual(told(3, [((True, False, False), False)], (True, True, False)), "open")
        both = [((True, False, False), True), ((False, True, False), True)]
        self.assertEqual(told(3, both, (True, True, True)), "none")
        self.assertEqual(clash(3, both), (0, 1))
        self.assertEqual(best_vote(3, ()), (False, False, True))
        self.assertEqual(best_vote(1, ()), (False,))
        self.assertEqual(best_vote(2, []), (False, True))

    def test_no_minutes(self):
        for folk in range(1, 7):
            for minutes in ([], ()):
                self.assertEqual(kept(self, fitting, folk, minutes), tables(folk, "outright"))
                self.assertIsNone(kept(self, clash, folk, minutes))
                self.assertEqual(told(folk, minutes, (True,) * folk), "yes")
                self.assertEqual(told(folk, minutes, (False,) * folk), "no")
                self.assertIsNone(error_of(best_vote, folk, minutes))
                if folk > 1:
                    self.assertEqual(told(folk, minutes, (True,) + (False,) * (folk - 1)), "open")

    def test_one_that_alone_cannot_be_true(self):
        for folk in (1, 2, 3, 6):
            yes, no = ((False,) * folk, True), ((True,) * folk, False)
            right = ((True,) * folk, True)
            for wrong in (yes, no):
                self.assertEqual(clash(folk, [wrong]), (0, 0))
                # It cannot be true beside another one either, and the pair with one ahead is less.
                self.assertEqual(clash(folk, [right, wrong]), (0, 1))
                self.assertEqual(clash(folk, [wrong, right]), (0, 0))
                self.assertEqual(fitting(folk, [wrong]), [])
                self.assertEqual(told(folk, (right, wrong), right[0]), "none")
                self.assertEqual(error_of(best_vote, folk, [wrong]), (NoTable, {}))

    def test_drawn_minutes(self):
        rng = random.Random(251)
        found = []
        for folk in (1, 2, 3, 4):
            for many in (1, 2, 3, 5, 9):
                for wrong in (0, 0, 1, 2):
                    for _ in range(3):
                        votes = all_flags(folk) if folk < 4 else rng.sample(all_flags(4), 4)
                        found.append(self.check(folk, drawn_minutes(rng, folk, many, min(wrong, many)), votes))
        self.assertGreater(min(found.count(None), len(found) - found.count(None)), 60)
        for wrong in (0, 1):
            for folk in (5, 6):
                minutes = drawn_minutes(rng, folk, 10, wrong)
                left = [table for table in tables(folk, "outright") if fits(table, minutes)]
                self.assertEqual(kept(self, fitting, folk, minutes), left)
                self.assertIs(bool(left), clash(folk, minutes) is None)
                for vote in rng.sample(all_flags(folk), 5):
                    self.assertEqual(told(folk, minutes, vote), plain_word(folk, minutes, vote))

    def test_all_minutes_of_a_table(self):
        for folk in (1, 2, 3, 4):
            for table in tables(folk, "outright"):
                minutes = [(vote, by_table(table, yes_lot(vote))) for vote in all_flags(folk)]
                self.assertEqual(fitting(folk, minutes), [table])
                self.assertIsNone(clash(folk, minutes))
                self.assertEqual(best_vote(folk, minutes), (False,) * folk)
                web = made(folk, table)
                if len(web.houses) < 8:
                    for vote, flag in minutes:
                        self.assertEqual([stand[-1] for stand in rests(web, vote)], [flag])
                        self.assertEqual(told(folk, minutes, vote), "yes" if flag else "no")

    def test_sixty_and_sixty_one(self):
        pair = ((True, True), True)
        for kind in (list, tuple):
            self.assertEqual(fitting(2, kind([pair] * 60)), [((0,),), ((1,),)])
            self.assertEqual(error_of(fitting, 2, kind([pair] * 61)), (NoMinutes, {}))
            self.assertEqual(clash(2, kind([pair] * 59 + [((False, False), True)])), (0, 59))
        rng = random.Random(252)
        minutes = drawn_minutes(rng, 6, 60, 0)
        self.assertTrue(fitting(6, minutes))
        self.assertIsNone(clash(6, minutes))

    def test_errors(self):
        for folk in (1, 3, 6):
            vote = (True,) * folk
            slots = [(NoFolk, folk, wrong_folks()), (NoMinutes, [(vote, True)], wrong_minutes(folk))]
            for function in [fitting, clash, best_vote]:
                check_calls(self, function, (), slots)
            check_calls(self, told, (), slots + [(NoVote, vote, wrong_flags(folk))])
            none = [(vote, False)]
            for thing in WRONG:
                if not is_flags(thing, folk):
                    self.assertEqual(error_of(told, folk, none, thing), (NoVote, {}))
            self.assertEqual(error_of(best_vote, folk, none), (NoTable, {}))
            self.assertEqual(error_of(best_vote, folk, none + [None]), (NoMinutes, {}))


if __name__ == "__main__":
    unittest.main()
