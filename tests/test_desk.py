import random
import unittest

from roundowned.carrying import carried
from roundowned.desk import Desk
from roundowned.errors import (BadText, BadWeb, NoBoards, NoHouse, NoLine, NoLot, NoName, NothingDone, NoVote, TooMany)
from roundowned.knots import verdict
from roundowned.orders import ends
from roundowned.rests import greatest_rest, least_rest
from roundowned.tables import kind, table
from roundowned.texts import web_text
from tests import samples
from tests.samples import (A, C, CHAIN, EMPTY, FULL, K, MIXED, PLAIN, SELF, WRONG, all_flags, all_lots, error_of,
                           nested, random_webs)


def lines_of(web):
    return web_text(web).replace("\n", "|")


def kept_desk():
    """A desk with some webs, and nothing else done."""
    desk = Desk()
    for name, web in [("a", A), ("k", K), ("c", C), ("empty", EMPTY), ("chain", CHAIN), ("mixed", MIXED), ("full", FULL)]:
        assert desk.tell(f"web {name} {lines_of(web)}") == "ok"
    return desk


def lot_word(lot):
    return ",".join(str(person) for person in lot) or "-"


def flags_word(flags):
    return "".join("y" if flag else "n" for flag in flags) or "-"


class Lines(unittest.TestCase):
    def test_webs_by_names(self):
        desk = Desk()
        self.assertEqual(desk.tell("names"), "none")
        self.assertEqual(desk.undoable(), 0)
        self.assertEqual(desk.tell("web k folk 1|house f0 h1 h1|house f0 h0 h0|"), "ok")
        self.assertEqual(desk.tell("web b folk 2|"), "ok")
        self.assertEqual(desk.tell("web ab folk 2|"), "ok")
        self.assertEqual(desk.tell("names"), "ab b k")
        self.assertEqual(desk.undoable(), 3)
        self.assertEqual(desk.tell("drop b"), "ok")
        self.assertEqual(desk.tell("names"), "ab k")
        self.assertEqual(desk.undoable(), 4)
        self.assertEqual(error_of(desk.tell, "drop b"), (NoName, {"name": "b"}))

    def test_plain_ones(self):
        desk = kept_desk()
        for line, told in [("carried a 0,1", "0"), ("carried a 0", "none"), ("carried a -", "none"), ("carried chain 0", "0 2 3"),
                           ("carried chain 0,1,2", "0 1 2 3"), ("verdict k 0 0", "hung"), ("verdict a 0,1 0", "lot"),
                           ("verdict a 2 0", "rest"), ("verdict a - 0", "rest"), ("table a 0", "0,1 0,2 1,2"), ("table k 1", "none"),
                           ("table chain 3", "0"), ("rest k y", "nn yy"), ("rest a yyn", "y y"), ("rest empty yn", "- -"),
                           ("ends k y yn", "nn yy"), ("ends c n ynn", "nnn yyy"), ("ends empty nn -", "-"), ("ends a yyn n", "y"),
                           ("kind a 0", "outright"), ("kind k 0", "round"), ("kind chain 0", "outright")]:
            self.assertEqual(desk.tell(line), told, line)

    def test_what_the_functions_tell(self):
        desk = Desk()
        for web in PLAIN[:-1] + random_webs(281, 25, 4, 5):
            self.assertEqual(desk.tell("web x " + lines_of(web)), "ok")
            for lot in all_lots(web.folk):
                houses = " ".join(str(house) for house in carried(web, lot)) or "none"
                self.assertEqual(desk.tell(f"carried x {lot_word(lot)}"), houses)
                for house in range(len(web.houses)):
                    self.assertEqual(desk.tell(f"verdict x {lot_word(lot)} {house}"), verdict(web, lot, house))
            for house in range(len(web.houses)):
                told = table(web, house)
                self.assertEqual(desk.tell(f"table x {house}"), " ".join(lot_word(lot) for lot in told) or "none")
                self.assertEqual(desk.tell(f"kind x {house}"), kind(web.folk, told))
            for vote in all_flags(web.folk):
                least, greatest = flags_word(least_rest(web, vote)), flags_word(greatest_rest(web, vote))
                self.assertEqual(desk.tell(f"rest x {flags_word(vote)}"), f"{least} {greatest}")
                for boards in all_flags(len(web.houses))[::3]:
                    told = " ".join(flags_word(end) for end in ends(web, vote, boards))
                    self.assertEqual(desk.tell(f"ends x {flags_word(vote)} {flags_word(boards)}"), told)

    def test_many_houses(self):
        desk = kept_desk()
        self.assertEqual(desk.tell("carried full 0,1,2,3,4,5"),
                         " ".join(str(house) for house in carried(FULL, (0, 1, 2, 3, 4, 5))) or "none")
        self.assertEqual(desk.tell("verdict full 0 11"), verdict(FULL, (0,), 11))
        self.assertEqual(error_of(desk.tell, "ends full yyyyyy " + "y" * 12), (TooMany, {"most": 8}))

    def test_two_desks_side_by_side(self):
        one, other = Desk(), Desk()
        one.tell("web a folk 1|")
        self.assertEqual(other.tell("names"), "none")
        self.assertEqual(error_of(other.tell, "undo"), (NothingDone, {}))
        other.tell("web b folk 2|")
        other.tell("web a folk 3|house f2|")
        self.assertEqual(one.tell("names"), "a")
        self.assertEqual(one.tell("rest a y"), "- -")
        self.assertEqual(other.tell("rest a nny"), "y y")
        one.tell("undo")
        self.assertEqual((one.undoable(), other.undoable()), (0, 2))
        self.assertEqual(other.tell("names"), "a b")
        self.assertFalse(one == other)
        for thing in WRONG:
            self.assertFalse(one == thing)

    def test_names_of_one_to_eight_letters(self):
        desk = Desk()
        for name in ["a", "z", "abcdefgh", "zzzzzzzz", "web", "drop", "names", "undo", "none"]:
            self.assertEqual(desk.tell(f"web {name} folk 1|house f0|"), "ok")
            self.assertEqual(desk.tell(f"carried {name} 0"), "0")
        self.assertEqual(desk.tell("names"), "a abcdefgh drop names none undo web z zzzzzzzz")
        for name in ["", "abcdefghi", "A", "a1", "a_b", "1", "-", "a|", "a.", "aB", "\ta", "a\t", "azzzzzzzz"]:
            for line in [f"web {name} folk 1|", f"drop {name}", f"carried {name} 0", f"kind {name} 0", f"ends {name} y y"]:
                self.assertEqual(error_of(desk.tell, line), (NoLine, {}), line)


class Undoing(unittest.TestCase):
    def test_a_web_in_the_place_of_an_elder_one(self):
        desk = Desk()
        desk.tell("web a folk 1|house f0|")
        desk.tell("web a folk 1|house h0|")
        self.assertEqual(desk.tell("carried a 0"), "none")
        self.assertEqual(desk.undoable(), 2)
        self.assertEqual(desk.tell("undo"), "ok")
        self.assertEqual(desk.tell("carried a 0"), "0")
        self.assertEqual(desk.undoable(), 1)
        self.assertEqual(desk.tell("drop a"), "ok")
        self.assertEqual(desk.tell("web a folk 2|"), "ok")
        self.assertEqual(desk.tell("undo"), "ok")
        self.assertEqual(error_of(desk.tell, "carried a 0"), (NoName, {"name": "a"}))
        self.assertEqual(desk.tell("undo"), "ok")
        self.assertEqual(desk.tell("carried a 0"), "0")
        self.assertEqual(desk.tell("undo"), "ok")
        self.assertEqual(desk.tell("names"), "none")
        self.assertEqual(error_of(desk.tell, "undo"), (NothingDone, {}))
        self.assertEqual(desk.undoable(), 0)

    def test_just_web_and_drop_lines_can_be_undone(self):
        desk = kept_desk()
        many = desk.undoable()
        for line in ["names", "carried a 0", "verdict a 0 0", "table a 0", "rest a yyy", "ends a yyy y", "kind a 0"]:
            desk.tell(line)
            self.assertEqual(desk.undoable(), many)
        for left in range(many - 1, -1, -1):
            self.assertEqual(desk.tell("undo"), "ok")
            self.assertEqual(desk.undoable(), left)
        self.assertEqual(error_of(desk.tell, "undo"), (NothingDone, {}))

    def test_drawn_lines(self):
        rng = random.Random(282)
        desk, states = Desk(), [{}]
        webs = [lines_of(web) for web in [A, K, EMPTY, SELF]]
        for _ in range(600):
            word, name = rng.choice(["web", "drop", "undo"]), rng.choice("abc")
            now = dict(states[-1])
            if word == "web":
                now[name] = rng.choice(webs)
                self.assertEqual(desk.tell(f"web {name} {now[name]}"), "ok")
                states.append(now)
            elif word == "drop" and name in now:
                del now[name]
                self.assertEqual(desk.tell(f"drop {name}"), "ok")
                states.append(now)
            elif word == "drop":
                self.assertEqual(error_of(desk.tell, f"drop {name}"), (NoName, {"name": name}))
            elif len(states) > 1:
                self.assertEqual(desk.tell("undo"), "ok")
                states.pop()
            else:
                self.assertEqual(error_of(desk.tell, "undo"), (NothingDone, {}))
            self.assertEqual(desk.undoable(), len(states) - 1)
            self.assertEqual(desk.tell("names"), " ".join(sorted(states[-1])) or "none")
            for one in states[-1]:
                folk = states[-1][one][5]
                self.assertEqual(error_of(desk.tell, f"rest {one} {'y' * int(folk)}"), None)
                self.assertEqual(error_of(desk.tell, f"rest {one} {'y' * int(folk)}y"), (NoVote, {}))

    def test_many_lines(self):
        desk = Desk()
        for k in range(1500):
            desk.tell(f"web {'ab'[k % 2]} folk {k % 6 + 1}|")
        self.assertEqual(desk.undoable(), 1500)
        for _ in range(1500):
            desk.tell("undo")
        self.assertEqual(desk.tell("names"), "none")


class Wrong(unittest.TestCase):
    def setUp(self):
        self.desk = kept_desk()

    def check(self, told, error, **fields):
        before = (self.desk.undoable(), self.desk.tell("names"), self.desk.tell("table a 0"))
        self.assertEqual(error_of(self.desk.tell, told), (error, fields), told)
        self.assertEqual((self.desk.undoable(), self.desk.tell("names"), self.desk.tell("table a 0")), before)

    def test_no_strings(self):
        for thing in WRONG + [["names"], ("names",), b"names", {"names": 1}, nested(40, list), self.desk, Desk()]:
            self.check(thing, NoLine)

    def test_line_feeds(self):
        for line in ["names\n", "\nnames", "undo\n", "web a folk 1|\n", "web a folk 1\n", "carried a 0\n", "carried\na 0", "\n"]:
            self.check(line, NoLine)

    def test_no_form(self):
        lines = ["", " ", "name", "Names", "names ", " names", "names a", "undo ", "undo a", "undo undo", " undo", "\tundo", "web",
                 "web ", "web a", "web a ", "web  folk 1|", " web a folk 1|", "webs a folk 1|", "web\ta folk 1|",
                 "web aA folk 1|", "drop", "drop ", "drop a ", "drop  a", "drop a b", "carried", "carried a", "carried a ",
                 "carried a 0 1", "carried a 0,", "carried a ,0", "carried a 0,,1", "carried a 0, 1", "carried  a 0", "carried a  0",
                 "carried a 0 ", "carried a 00", "carried a 01", "carried a -1", "carried a +1", "carried a 0,-", "carried a --",
                 "carried a none", "carried a 1234567890", "carried a f0", "carried 0 a", "carried a 0|1", "carried a 0\t1",
                 "verdict a 0", "verdict a 0 ", "verdict a 0 0 0", "verdict a 0 -", "verdict a 0 00", "verdict a 0 h0",
                 "verdict a 0 -1", "verdict a 0 1234567890", "verdict a 0  0", "verdict a 0 0,1", "table a", "table a ",
                 "table a -", "table a 0 0", "table a 00", "table a 0,1", "table a x", "rest a", "rest a ", "rest a 0", "rest a Y",
                 "rest a yyx", "rest a yy y", "rest a y-", "rest a --", "rest a yyy yyy", "rest a y,y,y", "ends a yyy", "ends a yyy ",
                 "ends a yyy 1", "ends a yyy y y", "ends a - --", "ends yyy y a", "ends a yyy  y", "kind a", "kind a ", "kind a -",
                 "kind a 0 0", "kind 0", "kind a 1234567890", "Kind a 0", "kind\ta 0", "kind a 0\t", "tell a", "none", "a", "0", "|"]
        for line in lines:
            self.check(line, NoLine)
        # Forms come ahead of names and of texts.
        self.check("carried x 00", NoLine)
        self.check("drop x y", NoLine)
        self.check("web A xx", NoLine)

    def test_bad_texts(self):
        for lines, number in [("x", 1), ("folk 1", 1), ("folk 1|house f0", 2), ("|", 1), (" ", 1), (" folk 1|", 1), ("folk 1||", 2),
                              ("folk 1|house|", 2), ("folk 1|house f0|house f00|", 3), ("house f0|", 1), ("folk 1 |", 1),
                              ("folk 1| house f0|", 2), ("folk 1|house f0 |", 2), ("folk\t1|", 1), ("folk 1234567890|", 1)]:
            self.check(f"web a {lines}", BadText, line=number)
            self.check(f"web newer {lines}", BadText, line=number)
        # Without a name, the first word of the text stands in its place.
        self.check("web folk 1|", BadText, line=1)

    def test_bad_webs(self):
        for lines, part in [("folk 0|", "folk"), ("folk 7|", "folk"), ("folk 1|house f0 f0|", 0), ("folk 1|house f0|house f1|", 1),
                            ("folk 1|" + "house f0|" * 13, "houses"), ("folk 1|house h1|", 0), ("folk 2|house f1 f0 f0|", 0)]:
            self.check(f"web a {lines}", BadWeb, part=part)
            self.check(f"web newer {lines}", BadWeb, part=part)

    def test_no_names(self):
        for line in ["drop x", "carried x 0", "carried x 9,9", "verdict x 0 0", "verdict x 9 99", "table x 0", "table x 99", "rest x -",
                     "rest x yyyyyyy", "ends x y y", "ends x - -", "kind x 0", "kind x 999999999"]:
            self.check(line, NoName, name="x")
        self.check("kind abcdefgh 0", NoName, name="abcdefgh")
        self.check("kind none 0", NoName, name="none")

    def test_what_the_functions_raise(self):
        for line, error in [("carried a 3", NoLot), ("carried a 0,0", NoLot), ("carried a 1,0", NoLot), ("carried a 0,3", NoLot),
                            ("carried a 999999999", NoLot), ("carried a 0,1,2,3", NoLot), ("verdict a 3 0", NoLot),
                            ("verdict a 3 9", NoLot), ("verdict a 0 1", NoHouse), ("verdict a 0 999999999", NoHouse),
                            ("table a 1", NoHouse), ("table empty 0", NoHouse), ("kind a 1", NoHouse), ("kind empty 0", NoHouse),
                            ("rest a yy", NoVote), ("rest a yyyy", NoVote), ("rest a -", NoVote), ("ends a yy y", NoVote),
                            ("ends a yy yy", NoVote), ("ends a - y", NoVote), ("ends a yyy yy", NoBoards), ("ends a yyy -", NoBoards),
                            ("ends empty yy y", NoBoards), ("ends full yyyyyy y", NoBoards)]:
            self.check(line, error)
        self.check("ends full yyyyyy " + "y" * 12, TooMany, most=8)

    def test_more_houses_than_ends_takes(self):
        self.desk.tell("web nine " + lines_of(samples.knotted(9)))
        self.check("ends nine y nnnnnnnnn", TooMany, most=8)
        self.desk.tell("web eight " + lines_of(samples.knotted(8)))
        self.assertEqual(self.desk.tell("ends eight y nnnnnnnn"), "nnnnnnnn")


if __name__ == "__main__":
    unittest.main()
