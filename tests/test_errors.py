"""Points 10 and 11: the error classes."""

import inspect
import unittest

from looksleft import errors

GIVEN = """InvalidHouses InvalidRoads InvalidHouse InvalidHouseList InvalidLine InvalidHomes InvalidCells InvalidCell
InvalidWrite InvalidScript InvalidBooks InvalidCounts InvalidLots InvalidMoment InvalidLooks InvalidFirsts InvalidLook
InvalidLot InvalidRow InvalidIndex InvalidPast InvalidPairs InvalidList InvalidCount InvalidTable InvalidAnswers
InvalidBook InvalidLines""".split()

FURTHER = {
    "NotJoined": ["house"], "NotARoad": ["u", "v"], "NothingToMake": ["house"], "NothingUnderWay": ["u", "v"],
    "Stopped": ["at"], "Faulty": ["fault"], "Torn": ["u", "v", "write"], "DoNotFit": ["picture"],
    "SameWrite": ["write"], "NotAhead": ["x", "z"], "SurelyAhead": ["x", "z"], "TooManyLooks": ["many"],
    "NotARow": ["house"], "SameHome": ["x", "y"], "NotSure": ["x", "z"], "Sure": ["x", "z"], "Open": ["write"],
    "CannotHave": ["write"], "NeverShown": ["write"], "NeverLast": ["write"], "NeverCommon": ["write"],
    "NoMoment": ["look"], "NotSooner": ["i", "j"], "NoClock": ["ring"], "NeverWritten": ["cell"], "Alone": ["write"],
    "Full": ["many"], "NothingToUndo": [], "NothingToRedo": [],
}

LISTED = {**{name: ["given"] for name in GIVEN}, **FURTHER}


class TestErrors(unittest.TestCase):

    def classes(self):
        return [(getattr(errors, name), names) for name, names in LISTED.items()]

    def test_just_the_listed_classes_are_there(self):
        found = {name for name, value in vars(errors).items() if inspect.isclass(value)}
        self.assertEqual(found, set(LISTED) | {"LeftError"})

    def test_each_is_a_left_error_and_of_no_other_class_of_the_package(self):
        self.assertEqual(errors.LeftError.__mro__[1], ValueError)
        for error, _ in self.classes():
            self.assertEqual(error.__mro__[1:3], (errors.LeftError, ValueError), error)
            self.assertEqual(error.__module__, "looksleft.errors")

    def test_created_by_position_and_by_name_with_the_very_objects(self):
        for error, names in self.classes():
            values = [[name, object()] for name in names]
            for made in (error(*values), error(**dict(zip(names, values))), error(**dict(zip(names[::-1], values[::-1])))):
                self.assertEqual(sorted(vars(made)), sorted(names))
                for name, value in zip(names, values):
                    self.assertIs(getattr(made, name), value)

    def test_any_values_are_kept(self):
        for value in (None, True, -5, "text", [], {}, ("time", 0, 1, 2)):
            for error, names in self.classes():
                made = error(*[value for _ in names])
                for name in names:
                    self.assertIs(getattr(made, name), value)

    def test_raised_and_caught(self):
        for error, names in self.classes():
            for base in (error, errors.LeftError, ValueError):
                with self.assertRaises(base):
                    raise error(*[0 for _ in names])


if __name__ == "__main__":
    unittest.main()
