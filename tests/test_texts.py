import random
import unittest

from roundowned.building import tripled
from roundowned.counting import tables
from roundowned.errors import BadText, BadWeb
from roundowned.making import founded
from roundowned.reading import read_minutes, read_table, read_web
from roundowned.texts import minutes_text, table_text, web_text
from roundowned.webs import Web
from tests import samples
from tests.samples import (A, C, CHAIN, EMPTY, FULL, K, MIXED, PLAIN, SELF, WRONG, error_of, every_table, kept, nested,
                           random_webs)
from tests.test_minutes import drawn_minutes

NUMBERS = ["00", "01", "-1", "+1", "1.", "0x1", "1_0", "", "1234567890", "0000000000", "1e1", "a", "\t1", "1\t", " 1", "one", "1-"]


class Case(unittest.TestCase):
    def bad(self, function, text, line):
        told = error_of(function, text)
        self.assertEqual(told, (BadText, {"line": line}), text)
        self.assertIs(type(told[1]["line"]), int)

    def no_strings(self, function):
        for thing in WRONG + [b"folk 1\n", [], ["folk 1\n"], ("folk 1\n",), nested(40, list), A, None, 0]:
            if not isinstance(thing, str):
                self.bad(function, thing, 0)


class Writing(unittest.TestCase):
    def test_webs(self):
        self.assertEqual(kept(self, web_text, K), "folk 1\nhouse f0 h1 h1\nhouse f0 h0 h0\n")
        self.assertEqual(web_text(A), "folk 3\nhouse f0 f1 f2\n")
        self.assertEqual(web_text(EMPTY), "folk 2\n")
        self.assertEqual(web_text(Web(6, ((("f", 5),),) * 12)), "folk 6\n" + "house f5\n" * 12)
        self.assertEqual(web_text(samples.row_of(13)).split("\n")[-2], "house h11")
        self.assertEqual(web_text(samples.chain_of(7)).count("\n"), 1537)
        wide = samples.wide()
        self.assertEqual([len(line.split(" ")) - 1 for line in web_text(wide).split("\n")[1:-1]],
                         [len(shares) for shares in wide.houses])

    def test_tables(self):
        self.assertEqual(kept(self, table_text, ((0, 1), (0, 2), (1, 2))), "0 1\n0 2\n1 2\n")
        self.assertEqual(table_text(()), "")
        self.assertEqual(table_text(((),)), "-\n")
        self.assertEqual(table_text(((0, 1, 2, 3, 4, 5),)), "0 1 2 3 4 5\n")

    def test_minutes(self):
        pairs = [((True, False), True), ((False, False), False)]
        self.assertEqual(kept(self, minutes_text, pairs), "yn y\nnn n\n")
        self.assertEqual(kept(self, minutes_text, tuple(pairs)), "yn y\nnn n\n")
        self.assertEqual(minutes_text([]), "")
        self.assertEqual(minutes_text(()), "")
        self.assertEqual(minutes_text([((True,) * 6, False)] * 60), "yyyyyy n\n" * 60)


class ReadingWebs(Case):
    def test_what_was_written(self):
        for web in PLAIN + random_webs(261, 60, 6, 12, 15):
            text = web_text(web)
            told = kept(self, read_web, text)
            self.assertEqual(told, web)
            self.assertIsInstance(told, Web)
            self.assertEqual(web_text(told), text)
        self.assertEqual(read_web("folk 1\n"), Web(1, ()))

    def test_first_lines(self):
        for line in ["", "folk", "folk ", "folk  1", " folk 1", "folk 1 ", "folk 1 2", "Folk 1", "folk\t1", "house f0", "1",
                     "folk f1", "folks 1", "house", "folk 1|"] + ["folk " + number for number in NUMBERS]:
            self.bad(read_web, line + "\n", 1)
            self.bad(read_web, line + "\nhouse f0\n", 1)
            self.bad(read_web, line + "\n\n\nxx", 1)
        self.assertEqual(error_of(read_web, "folk 999999999\n"), (BadWeb, {"part": "folk"}))

    def test_further_lines(self):
        lines = ["", " ", "house", "house ", "house  f0", "house f0 ", " house f0", "house f0  f0", "house\tf0", "house f0\tf1",
                 "folk 1", "House f0", "house F0", "house g0", "house x0", "house 0", "house f", "house h", "house f0 h", "house f0,f0", "f0",
                 "house f 0", "house 0f", "house ff0", "house -", "house f0 f0 x", "house f0 f0 f", "house f0|house f0"]
        for line in lines + ["house f0 f0 f" + number for number in NUMBERS] + ["house h" + number for number in NUMBERS]:
            self.bad(read_web, "folk 1\n" + line + "\n", 2)
            self.bad(read_web, "folk 1\nhouse f0\nhouse f0\n" + line + "\n", 4)
            self.bad(read_web, "folk 1\nhouse f0\n" + line + "\n" + line + "\n\nxx", 3)
            if line:
                self.bad(read_web, "folk 1\nhouse f0\n" + line, 3)

    def test_the_end(self):
        self.bad(read_web, "", 1)
        self.bad(read_web, "\n", 1)
        self.bad(read_web, "folk 1", 1)
        self.bad(read_web, "house f0", 1)
        self.bad(read_web, "folk 1\nhouse f0", 2)
        self.bad(read_web, "folk 1\nhouse f0\n ", 3)
        self.bad(read_web, "folk 1\nhouse f0\n\n", 3)
        self.bad(read_web, "folk 1\n\n", 2)
        self.bad(read_web, "x" * 20000, 1)
        self.bad(read_web, "\n" * 20000, 1)
        self.bad(read_web, "folk 1\n" + "house f0\n" * 2000 + "house f0", 2002)

    def test_texts_that_read_well_but_are_no_webs(self):
        for text, part in [("folk 0\n", "folk"), ("folk 7\nhouse f9\n", "folk"), ("folk 1\n" + "house f0\n" * 13, "houses"),
                           ("folk 1\nhouse f0 f0\n", 0), ("folk 1\nhouse f0\nhouse f1\n", 1), ("folk 2\nhouse f1 f0 f0\n", 0),
                           ("folk 2\nhouse h1\n", 0), ("folk 2\nhouse f0 f1 h0\nhouse h0 f0 f0\n", 1),
                           ("folk 1\nhouse" + " f0" * 17 + "\n", 0), ("folk 1\nhouse f999999999\n", 0),
                           ("folk 1\nhouse f0\nhouse h999999999\n", 1), ("folk 0\nhouse f0 f0\n" + "house f0\n" * 13, "folk")]:
            self.assertEqual(error_of(read_web, text), (BadWeb, {"part": part}))
            self.bad(read_web, text + "house", text.count("\n") + 1)
            self.bad(read_web, text + "house\n", text.count("\n") + 1)
        self.assertEqual(error_of(read_web, web_text(founded(FULL, (("f", 0),)))), (BadWeb, {"part": "houses"}))
        self.assertEqual(error_of(read_web, web_text(samples.wide())), (BadWeb, {"part": 1}))
        self.assertEqual(error_of(read_web, web_text(samples.chain_of(6))), (BadWeb, {"part": "houses"}))

    def test_no_strings(self):
        self.no_strings(read_web)


class ReadingTables(Case):
    def test_what_was_written(self):
        for folk in (1, 2, 3, 4):
            for table in every_table(folk):
                self.assertEqual(kept(self, read_table, table_text(table)), table)
        for table in tables(6, "outright")[::40]:
            self.assertEqual(read_table(table_text(table)), table)
        self.assertEqual(read_table(""), ())
        self.assertEqual(read_table("-\n"), ((),))

    def test_what_need_not_be_a_table(self):
        self.assertEqual(read_table("0\n0\n"), ((0,), (0,)))
        self.assertEqual(read_table("3 1 1\n-\n0\n"), ((3, 1, 1), (), (0,)))
        self.assertEqual(read_table("999999999 0\n"), ((999999999, 0),))
        self.assertEqual(read_table("10 100 17\n"), ((10, 100, 17),))

    def test_lines(self):
        for line in ["", " ", "- ", " -", "--", "- 0", "0 -", "0  1", " 0", "0 ", "0,1", "0\t1", "f0", "0 1 x", "0 1 2 03", "|"
                     ] + NUMBERS + ["0 " + number for number in NUMBERS]:
            self.bad(read_table, line + "\n", 1)
            self.bad(read_table, "0 1\n-\n" + line + "\n", 3)
            self.bad(read_table, "0 1\n" + line + "\n" + line + "\nxx", 2)
        self.bad(read_table, "0", 1)
        self.bad(read_table, "0\n1", 2)
        self.bad(read_table, "0\n\n", 2)
        self.bad(read_table, "\n", 1)
        self.bad(read_table, "x\n0", 1)

    def test_no_strings(self):
        self.no_strings(read_table)


class ReadingMinutes(Case):
    def test_what_was_written(self):
        rng = random.Random(262)
        for folk in range(1, 7):
            for many in (0, 1, 7, 60):
                minutes = drawn_minutes(rng, folk, many, 0)
                self.assertEqual(kept(self, read_minutes, minutes_text(minutes)), list(minutes))
        self.assertEqual(kept(self, read_minutes, ""), [])

    def test_what_need_not_be_minutes(self):
        told = read_minutes("y n\nyn y\nnnnnnnnn n\n" + "y y\n" * 70)
        self.assertEqual(told[:3], [((True,), False), ((True, False), True), ((False,) * 8, False)])
        self.assertEqual(len(told), 73)
        self.assertTrue(all(type(pair) is tuple and type(pair[0]) is tuple and type(pair[1]) is bool for pair in told))

    def test_lines(self):
        for line in ["", " ", "y", "yn", " y", "y ", "y  n", " y n", "y n ", "y n n", "y ny", "y -", "- y", "Y n", "y N", "x y", "y x",
                     "y\tn", "yxn y", "1 0", "y,n", "True False", "y|n", "- -"]:
            self.bad(read_minutes, line + "\n", 1)
            self.bad(read_minutes, "yn y\nyn n\n" + line + "\n", 3)
            self.bad(read_minutes, "yn y\n" + line + "\n" + line + "\nxx", 2)
        self.bad(read_minutes, "y n", 1)
        self.bad(read_minutes, "y n\ny n", 2)
        self.bad(read_minutes, "y n\n\n", 2)
        self.bad(read_minutes, "\n", 1)

    def test_no_strings(self):
        self.no_strings(read_minutes)


class Larger(unittest.TestCase):
    def test_webs_that_were_returned(self):
        for web in [tripled(MIXED), samples.many(), samples.ring_of(3)]:
            lines = web_text(web).split("\n")
            self.assertEqual(lines[0], f"folk {web.folk}")
            self.assertEqual(lines[-1], "")
            for line, shares in zip(lines[1:-1], web.houses):
                self.assertEqual(line, "house " + " ".join(f"{kind}{number}" for kind, number in shares))
        self.assertEqual(len([K, C, SELF, CHAIN]), 4)


if __name__ == "__main__":
    unittest.main()
