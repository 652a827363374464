"""What holds over the whole program."""

import random
import sys
import unittest

from roundowned import (building, buying, callers, carrying, counting, doubts, errors, idle, joining, kinds, knots,
                        likeness, lots, making, meetings, minutes, orders, reading, rests, rings, tables, texts, unrest,
                        webs)
from roundowned.desk import Desk
from roundowned.town import Town
from roundowned.webs import Web
from tests import samples
from tests.samples import (A, C, CHAIN, EMPTY, FULL, K, MIXED, PLAIN, SELF, WRONG, all_flags, all_lots, by_table,
                           error_of, picture, plain_resold, random_web, random_webs)
from tests.test_interface import INTERFACE

MODULES = {module.__name__.split(".")[1]: module for module in (
    building, buying, callers, carrying, counting, doubts, errors, idle, joining, kinds, knots, likeness, lots, making,
    meetings, minutes, orders, reading, rests, rings, tables, texts, unrest, webs)}
MOST = {"shortest_row": 12, "rests": 12, "many_rests": 12, "ends": 8, "end_row": 8, "reachable": 8, "fewest_meetings": 8,
        "fate": 8, "unrest": 8, "chance": 6, "called": 8, "same_stands": 8, "unlike_stand": 8, "cheapest": 10,
        "purchase": 10, "is_purchase": 10, "fewest_sold": 12, "sold_out": 12}


def yes_lot(vote):
    return tuple(person for person, flag in enumerate(vote) if flag)


def drawn_arguments(web, rng):
    """Right arguments for the functions of a web with a house, by their names."""
    many = len(web.houses)
    lot = rng.choice(all_lots(web.folk)[1:])
    boards = tuple(rng.choice((True, False)) for _ in range(many))
    vote = tuple(rng.choice((True, False)) for _ in range(web.folk))
    rest = rests.greatest_rest(web, vote)
    house = rng.randrange(many)
    other = making.sold(web, house, 0, ("f", 0))
    return {"web": web, "one": web, "other": other, "house": house, "goal": rng.randrange(many), "holder": ("h", house), "lot": lot,
            "vote": vote, "boards": boards, "row": [rng.randrange(many) for _ in range(5)], "end": boards, "flag": True,
            "person": rng.randrange(web.folk), "share": 0, "shares": (("f", 0),), "folk": web.folk, "many": 6,
            "order": tuple(rng.sample(range(many), many)), "thing": [house], "rest": rest,
            "prices": tuple(tuple(rng.randint(0, 9) for _ in shares) for shares in web.houses),
            "doubts": {(house, 0): (("f", 0), ("h", house))}}


def calls_of(web, rng):
    """A call of each function of a web, as a list of pairs of the function and its arguments."""
    told = drawn_arguments(web, rng)
    calls = []
    for module, text in INTERFACE.items():
        for one in text.split(";"):
            name, _, names = one.strip().partition("(")
            names = names.rstrip(")").split(", ")
            if module in MODULES and ("web" in names or "one" in names) and name not in ("Web", "refuted"):
                arguments = [told[key] for key in names]
                if name in ("higher", "lower"):
                    arguments = [web, told["vote"], told["rest"], told["rest"]]
                if name == "swapped":
                    arguments = [web, tuple(rng.sample(range(web.folk), web.folk))]
                if name == "cheapest_votes":
                    arguments = [web, told["house"], tuple(range(web.folk))]
                calls.append((getattr(MODULES[module], name), arguments))
    return calls


def answer(function, arguments):
    """What a call tells or raises, as a picture."""
    try:
        return picture(function(*arguments))
    except errors.HouseError as error:
        return picture(error)


def spoil(thing):
    """Do what can be done to the lists and dicts inside a thing."""
    if isinstance(thing, tuple):
        for one in thing:
            spoil(one)
    if isinstance(thing, list):
        for one in thing:
            spoil(one)
        thing.append("more")
        thing.reverse()
    if isinstance(thing, dict):
        for one in thing.values():
            spoil(one)
        thing["more"] = 1


def moved_lot(lot, order):
    return tuple(sorted(order.index(person) for person in lot))


def moved_houses(houses, order):
    return tuple(sorted(order.index(house) for house in houses))


class Agreement(unittest.TestCase):
    def webs(self):
        return PLAIN[:-1] + random_webs(291, 40, 3, 5) + random_webs(292, 10, 4, 4, 7)

    def test_who_carries(self):
        for web in self.webs() + [FULL, samples.wide(), samples.many()]:
            houses = range(len(web.houses))
            told = [tables.table(web, house) for house in houses]
            self.assertEqual(told, [tuple(lots.least_lots(web, house)) for house in houses])
            for lot in all_lots(web.folk):
                carried = carrying.carried(web, lot)
                rest = tuple(person for person in range(web.folk) if person not in lot)
                other = carrying.carried(web, rest)
                # The first fact.
                self.assertFalse(set(carried) & set(other))
                vote = tuple(person in lot for person in range(web.folk))
                greatest, least = rests.greatest_rest(web, vote), rests.least_rest(web, vote)
                town = Town(web, vote, least)
                self.assertEqual(town.carried(lot), carried)
                self.assertEqual(town.settle(), ())
                for house in houses:
                    word = "lot" if house in carried else "rest" if house in other else "hung"
                    self.assertEqual(knots.verdict(web, lot, house), word)
                    self.assertIs(tables.carries(web.folk, told[house], lot), house in carried)
                    self.assertIs(by_table(told[house], lot), house in carried)
                    self.assertIs(carrying.row(web, lot, house) is None, house not in carried)
                    self.assertEqual((least[house], greatest[house]), {"lot": (True, True), "rest": (False, False),
                                                                      "hung": (False, True)}[word])
                    self.assertEqual(doubts.surely(web, {}, lot, house), "surely" if word == "lot" else "never")

    def test_the_main_fact(self):
        for web in self.webs() + [samples.wide(), samples.many()]:
            for house in range(len(web.houses)):
                told = tables.table(web, house)
                self.assertIn(tables.kind(web.folk, told), ("round", "outright"))
                if rings.is_ringless(web):
                    self.assertEqual(tables.kind(web.folk, told), "outright")
                made = building.made(web.folk, told)
                self.assertTrue(likeness.are_alike(web, house, made, len(made.houses) - 1))
                self.assertTrue(building.is_made(web.folk, told, made))

    def test_stands(self):
        for web in self.webs():
            rng = random.Random(293)
            for vote in all_flags(web.folk):
                stands = rests.rests(web, vote)
                self.assertEqual(stands[0], rests.least_rest(web, vote))
                self.assertEqual(stands[-1], rests.greatest_rest(web, vote))
                hung = knots.hung(web, yes_lot(vote))
                # The fourth fact.
                self.assertIs(len(stands) == 1, not hung)
                self.assertIs(vote in rests.double_votes(web), bool(hung))
                for _ in range(3):
                    boards = tuple(rng.choice((True, False)) for _ in web.houses)
                    ends = orders.ends(web, vote, boards)
                    self.assertLessEqual(set(ends), set(stands))
                    self.assertEqual(ends, sorted(set(orders.reachable(web, vote, boards)) & set(stands)))
                    self.assertIn(orders.greatest_end(web, vote, boards), ends)
                    self.assertIn(orders.least_end(web, vote, boards), ends)
                    town = Town(web, vote, boards)
                    if error_of(town.settle) is None:
                        self.assertIn(town.boards(), ends)
                    else:
                        self.assertIsNotNone(unrest.unrest(web, vote, boards))
                    for house in range(len(web.houses)):
                        flags = {end[house] for end in ends}
                        fate = "open" if len(flags) > 1 else "yes" if True in flags else "no"
                        self.assertEqual(orders.fate(web, vote, boards, house), fate)
                        top, bottom = callers.chance(web, vote, boards, house)
                        self.assertEqual({"open": 0 < top < bottom, "yes": top == bottom, "no": top == 0}[fate], True)
                    for end in stands:
                        row = orders.end_row(web, vote, boards, end)
                        self.assertIs(row is None, end not in ends)
                        if row:
                            self.assertEqual(meetings.meetings(web, vote, boards, row)[-1], end)

    def test_minutes_of_webs(self):
        for web in random_webs(294, 40, 4, 4):
            if rings.is_ringless(web):
                for house in range(len(web.houses)):
                    told = [(vote, rests.least_rest(web, vote)[house]) for vote in all_flags(web.folk)]
                    self.assertEqual(minutes.fitting(web.folk, told), [tables.table(web, house)])
                    for vote, flag in told:
                        self.assertEqual(minutes.told(web.folk, told, vote), "yes" if flag else "no")

    def test_tripled_webs_and_texts(self):
        for web in self.webs():
            tripled = building.tripled(web)
            again = reading.read_web(texts.web_text(web))
            self.assertEqual(again, web)
            self.assertEqual(likeness.same_stands(web, again), True)
            for house in range(len(web.houses)):
                self.assertEqual(tables.table(tripled, house), tables.table(web, house))
                told = tables.table(web, house)
                self.assertEqual(reading.read_table(texts.table_text(told)), told)
            if web.folk < 5:
                for lot in all_lots(web.folk):
                    many = len(web.houses)
                    self.assertEqual([house for house in carrying.carried(tripled, lot) if house < many],
                                     list(carrying.carried(web, lot)))

    def test_the_desk(self):
        desk = Desk()
        for web in self.webs():
            desk.tell("web x " + texts.web_text(web).replace("\n", "|"))
            for house in range(len(web.houses)):
                told = tables.table(web, house)
                lines = [line.replace(" ", ",") for line in texts.table_text(told).split("\n")[:-1]]
                self.assertEqual(desk.tell(f"table x {house}"), " ".join(lines) or "none")
                self.assertEqual(desk.tell(f"kind x {house}"), tables.kind(web.folk, told))
            for vote in all_flags(web.folk):
                pairs = [(vote, True)]
                word = texts.minutes_text(pairs).split(" ")[0]
                least, greatest = desk.tell(f"rest x {word}").split(" ")
                self.assertEqual([flag == "y" for flag in least if flag != "-"], list(rests.least_rest(web, vote)))
                self.assertEqual([flag == "y" for flag in greatest if flag != "-"], list(rests.greatest_rest(web, vote)))

    def test_shares_and_houses(self):
        rng = random.Random(295)
        for web in self.webs():
            for house, place in idle.idle(web):
                other = making.sold(web, house, place, ("f", rng.randrange(web.folk)))
                for goal in range(len(web.houses)):
                    self.assertEqual(tables.table(other, goal), tables.table(web, goal))
            for one, other in idle.twins(web):
                self.assertTrue(likeness.are_alike(web, one, web, other))
            for lot in all_lots(web.folk)[1:]:
                for house in range(len(web.houses)):
                    carries = house in carrying.carried(web, lot)
                    prices = tuple((1,) * len(shares) for shares in web.houses)
                    self.assertIs(buying.cheapest(web, lot, house, prices) == 0, carries)
                    self.assertIs(buying.fewest_sold(web, lot, house) > 0, carries)
                    bought = {share: ("f", lot[0]) for share in buying.purchase(web, lot, house, prices)}
                    self.assertIn(house, carrying.carried(plain_resold(web, bought), lot))


class Order(unittest.TestCase):
    def test_houses_in_another_order(self):
        rng = random.Random(296)
        for _ in range(40):
            web = random_web(rng, 3, rng.randint(1, 5))
            many = len(web.houses)
            order = tuple(rng.sample(range(many), many))
            other = making.renumbered(web, order)
            self.assertEqual(rings.is_ringless(other), rings.is_ringless(web))
            self.assertEqual(sorted(moved_houses(circle, order) for circle in rings.circles(web)), rings.circles(other))
            self.assertEqual(moved_houses(knots.never_carried(web), order), knots.never_carried(other))
            self.assertEqual(sorted(tuple(sorted((order.index(one), order.index(two)))) for one, two in idle.twins(web)),
                             idle.twins(other))
            for lot in all_lots(3):
                self.assertEqual(moved_houses(carrying.carried(web, lot), order), carrying.carried(other, lot))
            for at, house in enumerate(order):
                self.assertEqual(tables.table(other, at), tables.table(web, house))
                self.assertEqual(lots.says_most(other, at), lots.says_most(web, house))
                self.assertEqual(buying.fewest_sold(other, (0, 1), at), buying.fewest_sold(web, (0, 1), house))
            vote = tuple(rng.choice((True, False)) for _ in range(3))
            boards = tuple(rng.choice((True, False)) for _ in range(many))
            moved = tuple(boards[house] for house in order)
            self.assertEqual(sorted(tuple(end[house] for house in order) for end in orders.ends(web, vote, boards)),
                             orders.ends(other, vote, moved))
            for at, house in enumerate(order):
                self.assertEqual(callers.chance(other, vote, moved, at), callers.chance(web, vote, boards, house))
                self.assertEqual(callers.called(other, vote, moved, at, 5), callers.called(web, vote, boards, house, 5))
            self.assertIs(unrest.unrest(other, vote, moved) is None, unrest.unrest(web, vote, boards) is None)

    def test_folk_in_another_order(self):
        rng = random.Random(297)
        for _ in range(40):
            web = random_web(rng, 4, rng.randint(1, 4))
            order = tuple(rng.sample(range(4), 4))
            other = making.swapped(web, order)
            for lot in all_lots(4):
                self.assertEqual(carrying.carried(other, moved_lot(lot, order)), carrying.carried(web, lot))
            for house in range(len(web.houses)):
                told = tables.table(web, house)
                self.assertEqual(sorted(moved_lot(lot, order) for lot in told), lots.least_lots(other, house))
                self.assertEqual(kinds.renamed(4, told, order), tables.table(other, house))
                self.assertEqual(kinds.first_of_kind(4, told), kinds.first_of_kind(4, tables.table(other, house)))
                self.assertEqual(tuple(lots.turns(web, house)[person] for person in order), lots.turns(other, house))
            self.assertEqual(sorted(tuple(vote[person] for person in order) for vote in rests.double_votes(web)),
                             rests.double_votes(other))


class Alike(unittest.TestCase):
    def test_equal_webs_tell_alike(self):
        for seed, web in enumerate([A, K, C, SELF, CHAIN, MIXED, samples.wide()] + random_webs(298, 12, 3, 4)):
            if not web.houses:
                continue
            apart = reading.read_web(texts.web_text(web)) if web.houses != samples.wide().houses else samples.wide()
            self.assertEqual(apart, web)
            for (function, told), (_, other) in zip(calls_of(web, random.Random(seed)), calls_of(apart, random.Random(seed))):
                before = picture(told)
                first = answer(function, told)
                self.assertEqual(answer(function, other), first, function)
                try:
                    spoil(function(*told))
                except errors.HouseError:
                    pass
                self.assertEqual(picture(told), before, function)
                self.assertEqual(answer(function, told), first, function)
                self.assertEqual(answer(function, other), first, function)

    def test_tables_and_minutes_tell_alike(self):
        told = ((0, 1), (0, 2), (1, 2))
        pairs = [((True, True, False), True)]
        for function, arguments in [(counting.tables, (3, "round")), (joining.above, (3, ((0, 1),))), (kinds.kinds, (4, "outright")),
                                    (minutes.fitting, (3, pairs)), (reading.read_minutes, ("yyn y\n",)), (lots.least_lots, (A, 0)),
                                    (tables.kind, (3, told)), (minutes.best_vote, (3, pairs))]:
            first = answer(function, arguments)
            spoil(function(*arguments))
            self.assertEqual(answer(function, arguments), first)

    def test_objects_are_equal_to_nothing_else(self):
        things = [A, Town(A, (True,) * 3, (True,)), Desk(), errors.NoHouse()]
        for thing in things:
            for other in WRONG + things:
                if thing is not other and not (isinstance(other, Web) and other == A and thing is A):
                    self.assertFalse(thing == other)
                    self.assertTrue(thing != other)


class Large(unittest.TestCase):
    def run_all(self, web):
        """Call all functions of a large web, with few frames to spare; only those with a limit raise an error."""
        rng = random.Random(299)
        calls = calls_of(web, rng)
        limit = sys.getrecursionlimit()
        for function, told in calls:
            name = function.__name__
            if name == "idle":
                continue
            frames = 0
            frame = sys._getframe()
            while frame:
                frames, frame = frames + 1, frame.f_back
            sys.setrecursionlimit(frames + 60)
            try:
                error = error_of(function, *told)
            finally:
                sys.setrecursionlimit(limit)
            most = MOST.get(name)
            if name not in ("closed", "double"):
                self.assertEqual(error, None if most is None else (errors.TooMany, {"most": most}), name)

    def test_more_than_a_thousand_houses(self):
        for web in [samples.chain_of(7), samples.ring_of(7), samples.row_of(1100, 2)]:
            self.assertGreater(len(web.houses), 1000)
            self.run_all(web)
        knots_of = samples.knotted(12)
        while len(knots_of.houses) < 1000:
            knots_of = making.beside(knots_of, knots_of)
        self.run_all(knots_of)

    def test_town_of_more_than_a_thousand_houses(self):
        web = samples.chain_of(7)
        many = len(web.houses)
        town = Town(web, (True,), (False,) * many)
        for house in range(300):
            town.meet(house)
        town.settle()
        self.assertEqual(town.boards(), (True,) * many)
        self.assertEqual(error_of(town.found, (("f", 0),), True), (errors.TooMany, {"most": 40}))
        self.assertEqual(town.carried((0,)), tuple(range(many)))
        town.say(0, False)
        self.assertEqual(town.trying(lambda other: len(other.settle()) % many), 0)
        for _ in range(302):
            town.back()
        self.assertEqual(town.boards(), (False,) * many)

    def test_rows_of_three_hundred_meetings(self):
        rng = random.Random(300)
        for web in [K, C, MIXED, FULL, samples.ring_of(3)]:
            vote = tuple(rng.choice((True, False)) for _ in range(web.folk))
            boards = tuple(rng.choice((True, False)) for _ in web.houses)
            row = [rng.randrange(len(web.houses)) for _ in range(300)]
            town = Town(web, vote, boards)
            flags = [town.meet(house) for house in row]
            behind = meetings.meetings(web, vote, boards, row)
            self.assertEqual(flags, [stand[house] for stand, house in zip(behind, row)])
            self.assertEqual(town.boards(), behind[-1])
            self.assertEqual(town.depth(), 300)
            for stand in behind[-2::-1] + [boards]:
                town.back()
                self.assertEqual(town.boards(), stand)
            self.assertFalse(unrest.is_unrest(web, vote, boards, (tuple(row), ())))

    def test_idle_shares_of_many_houses(self):
        self.assertEqual(idle.idle(samples.chain_of(6)), [])

    def test_the_empty_web(self):
        for name in ["idle", "twins"]:
            self.assertEqual(getattr(idle, name)(EMPTY), [])
        self.assertEqual(reading.read_web(texts.web_text(EMPTY)), EMPTY)
        self.assertEqual(building.tripled(EMPTY), EMPTY)


if __name__ == "__main__":
    unittest.main()
