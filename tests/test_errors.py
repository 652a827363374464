import copy
import unittest

from roundowned import errors
from tests.samples import nested

PLAIN = """NoHouse NoHolder NoShare NoShares NoClosing NoOrder NoMatch NoPerson NoFolk NoVote NoBoards NoRow NoLot
NoRest NotOwn NoFlag NoNumber NoTable NoTables NoKind NoPrices NoDoubts NoMinutes NoEnd NothingDone NoLine""".split()
FIELDS = {"BadWeb": "part", "TooMany": "most", "BadText": "line", "NoName": "name"}


class Errors(unittest.TestCase):
    def test_each_derives_directly_from_house_error(self):
        self.assertEqual(errors.HouseError.__bases__, (ValueError,))
        for name in PLAIN + list(FIELDS):
            self.assertEqual(getattr(errors, name).__bases__, (errors.HouseError,), name)
            self.assertEqual(getattr(errors, name).__module__, "roundowned.errors")

    def test_there_are_no_others(self):
        names = [name for name, thing in vars(errors).items() if isinstance(thing, type)]
        self.assertEqual(sorted(names), sorted(PLAIN + list(FIELDS) + ["HouseError"]))

    def test_fields_keep_whatever_is_passed(self):
        things = [0, 12, "folk", None, True, b"x", (1, 2), [], {}, errors.NoHouse(), nested(40, list), nested(40, tuple)]
        for name, field in FIELDS.items():
            for thing in things:
                error = getattr(errors, name)(thing)
                self.assertIs(getattr(error, field), thing)
                self.assertEqual(list(vars(error)), [field])

    def test_they_are_made_with_just_their_fields(self):
        for name in PLAIN:
            error = getattr(errors, name)()
            self.assertEqual(vars(error), {})
            with self.assertRaises(TypeError):
                getattr(errors, name)("why")
        for name in FIELDS:
            with self.assertRaises(TypeError):
                getattr(errors, name)()
            with self.assertRaises(TypeError):
                getattr(errors, name)(1, 2)

    def test_an_error_is_equal_to_no_other_thing(self):
        self.assertNotEqual(errors.NoHouse(), errors.NoHolder())
        self.assertNotEqual(errors.TooMany(8), errors.BadWeb(8))
        self.assertNotEqual(errors.TooMany(8), 8)

    def test_they_can_be_copied(self):
        self.assertEqual(copy.deepcopy(errors.BadWeb("folk")).part, "folk")
        self.assertIs(type(copy.deepcopy(errors.NoHouse())), errors.NoHouse)


if __name__ == "__main__":
    unittest.main()
