import unittest

from roundowned.counting import many_tables, narrower, table_at, table_number, tables, wider
from roundowned.errors import NoFolk, NoKind, NoNumber, NoTable, TooMany
from roundowned.tables import is_table, kind
from tests.samples import (all_lots, by_table, check_calls, error_of, every_table, integer, kept, nested, wrong_but,
                           wrong_folks, wrong_tables)
from tests.test_tables import MOST, STAR, plain_kind

MANY = {"outright": [1, 2, 4, 12, 81, 2646], "round": [2, 4, 12, 81, 2646]}


def wrong_kinds():
    fits = lambda thing: isinstance(thing, str) and thing in MANY
    return wrong_but(fits) + ["none", "Outright", "rounds", "outrigh", " round", b"round", ["round"], ("round",), {"round": 1}]


class Tables(unittest.TestCase):
    def test_up_to_four_folk(self):
        self.assertEqual(kept(self, tables, 1, "outright"), [((0,),)])
        self.assertEqual(kept(self, tables, 1, "round"), [(), ((0,),)])
        self.assertEqual(kept(self, tables, 2, "round"), [(), ((0,),), ((0, 1),), ((1,),)])
        self.assertEqual(kept(self, tables, 3, "outright"), [((0,),), ((0, 1), (0, 2), (1, 2)), ((1,),), ((2,),)])
        for folk in (1, 2, 3, 4):
            kinds = {told: plain_kind(folk, told) for told in every_table(folk)}
            outright = [told for told in kinds if kinds[told] == "outright"]
            rounds = [told for told in kinds if kinds[told] != "none"]
            self.assertEqual(kept(self, tables, folk, "outright"), outright)
            self.assertEqual(kept(self, tables, folk, "round"), rounds)
            for word, told in [("outright", outright), ("round", rounds)]:
                self.assertEqual(kept(self, many_tables, folk, word), len(told))
                for number, one in enumerate(told):
                    self.assertEqual(kept(self, table_at, folk, word, number), one)
                    self.assertEqual(kept(self, table_number, folk, word, one), number)
                for one in kinds:
                    if one not in told:
                        self.assertEqual(error_of(table_number, folk, word, one), (NoTable, {}))

    def test_five_and_six_folk(self):
        for folk, word in [(5, "outright"), (5, "round"), (6, "outright")]:
            told = tables(folk, word)
            self.assertEqual(len(told), MANY[word][folk - 1])
            self.assertEqual(told, sorted(set(told)))
            fits = ["outright"] if word == "outright" else ["outright", "round"]
            for one in told[::7]:
                self.assertIs(is_table(folk, one), True)
                self.assertIn(kind(folk, one), fits)
            for number in [0, 1, len(told) // 2, len(told) - 1]:
                self.assertEqual(table_at(folk, word, number), told[number])
                self.assertEqual(table_number(folk, word, told[number]), number)
        self.assertEqual(len([one for one in tables(5, "round") if kind(5, one) == "outright"]), 81)

    def test_how_many_there_are(self):
        for word in MANY:
            self.assertEqual([many_tables(folk + 1, word) for folk in range(len(MANY[word]))], MANY[word])

    def test_errors(self):
        folks = (NoFolk, 3, wrong_folks())
        kinds = (NoKind, "round", wrong_kinds())
        numbers = (NoNumber, 11, wrong_but(lambda thing: integer(thing, 12)) + [-1, 12, 13, [0], "0"])
        told = (NoTable, ((0, 1),), wrong_tables(3) + [((),), ((0,), (1,)), ((0,), (1,), (2,)), ((0, 1), (2,))])
        for function in [tables, many_tables]:
            check_calls(self, function, (), [folks, kinds])
        check_calls(self, table_at, (), [folks, kinds, numbers])
        check_calls(self, table_number, (), [folks, kinds, told])
        for thing in [None, 0, -1, 10 ** 9, nested(40, list), ()]:
            for function in [table_at, table_number]:
                self.assertEqual(error_of(function, 6, "round", thing), (TooMany, {"most": 5}))
                self.assertEqual(error_of(function, 7, "round", thing), (NoFolk, {}))
                self.assertEqual(error_of(function, 6, "rounds", thing), (NoKind, {}))
        for function in [tables, many_tables]:
            self.assertEqual(error_of(function, 6, "round"), (TooMany, {"most": 5}))
            self.assertEqual(error_of(function, 6, "none"), (NoKind, {}))
            self.assertIsNone(error_of(function, 6, "outright"))
        for folk, word, most in [(1, "outright", 1), (1, "round", 2), (5, "round", 2646), (6, "outright", 2646)]:
            self.assertEqual(error_of(table_at, folk, word, most), (NoNumber, {}))
            self.assertEqual(error_of(table_at, folk, word, -1), (NoNumber, {}))
            self.assertIsNone(error_of(table_at, folk, word, most - 1))
        for folk in range(1, 7):
            self.assertEqual(error_of(table_number, folk, "outright", ()), (NoTable, {}))
            self.assertEqual(error_of(table_number, folk, "outright", ((),)), (NoTable, {}))
        self.assertEqual(table_number(3, "round", ()), 0)
        self.assertEqual(error_of(table_number, 3, "round", ((),)), (NoTable, {}))


class Wider(unittest.TestCase):
    def test_plain_ones(self):
        self.assertEqual(kept(self, wider, 2, ((0, 1),)), ((0, 1), (0, 2), (1, 2)))
        self.assertEqual(kept(self, wider, 1, ()), ((1,),))
        self.assertEqual(kept(self, wider, 1, ((0,),)), ((0,),))
        self.assertEqual(kept(self, narrower, 2, ((1,),)), ())
        self.assertEqual(kept(self, narrower, 3, ((0, 1), (0, 2), (1, 2))), ((0, 1),))
        self.assertEqual(kept(self, narrower, 6, STAR), ((0, 1), (0, 2), (0, 3), (0, 4)))
        self.assertEqual(kept(self, wider, 5, STAR[:4]), STAR)

    def test_the_eighth_fact(self):
        for folk in range(1, 6):
            rounds = tables(folk, "round")
            outright = [wider(folk, told) for told in rounds]
            self.assertEqual(sorted(outright), tables(folk + 1, "outright"))
            self.assertEqual([narrower(folk + 1, told) for told in outright], rounds)
            for told, wide in list(zip(rounds, outright))[:: 1 if folk < 5 else 40]:
                for lot in all_lots(folk):
                    self.assertIs(by_table(wide, lot), by_table(told, lot))
                    rest = tuple(k for k in range(folk) if k not in lot)
                    self.assertIs(by_table(wide, lot + (folk,)), not by_table(told, rest))
                self.assertEqual(kept(self, wider, folk, told), wide)
                self.assertEqual(kept(self, narrower, folk + 1, wide), told)

    def test_errors(self):
        for folk in range(1, 6):
            apart = [((),)] + ([((0,), (1,))] if folk > 1 else [])
            slots = [(NoFolk, folk, wrong_folks()), (NoTable, ((0,),), wrong_tables(folk) + apart)]
            check_calls(self, wider, (), slots)
            for told in every_table(folk) if folk < 5 else []:
                error = (NoTable, {}) if plain_kind(folk, told) == "none" else None
                self.assertEqual(error_of(wider, folk, told), error)
        for folk in range(2, 7):
            slots = [(NoFolk, folk, wrong_folks() + [1]), (NoTable, ((0,),), wrong_tables(folk) + [(), ((),), ((0, 1),)])]
            check_calls(self, narrower, (), slots)
            for told in every_table(folk) if folk < 5 else []:
                error = None if plain_kind(folk, told) == "outright" else (NoTable, {})
                self.assertEqual(error_of(narrower, folk, told), error)
        for thing in [STAR, MOST, (), None, 0, nested(40, tuple)]:
            self.assertEqual(error_of(wider, 6, thing), (TooMany, {"most": 5}))
            self.assertEqual(error_of(wider, 7, thing), (NoFolk, {}))
            self.assertEqual(error_of(narrower, 1, thing), (NoFolk, {}))
        self.assertEqual(error_of(narrower, 6, MOST), (NoTable, {}))


if __name__ == "__main__":
    unittest.main()
