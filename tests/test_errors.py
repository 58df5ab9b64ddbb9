import unittest

from anything import anything
from roomsthrough import errors

WITH_A_VALUE = {
    "value": [
        "BadRules", "BadBag", "BadRoom", "BadLevel", "BadOutcome", "BadTable", "BadFrail", "BadFull", "BadGrammar",
        "BadDerivation", "BadName", "BadCount", "BadWish", "BadNumber",
    ],
    "index": ["BadCell"],
    "number": ["BadMouth"],
    "path": ["BadPath"],
    "at": ["BadPlay", "BadPrices", "BadIndex", "BadText"],
}
BARE = ["BadPaper", "NoPaper", "NothingDone", "TooMany"]


class ErrorTest(unittest.TestCase):
    def test_maze_error_is_directly_below_value_error(self):
        self.assertEqual((ValueError,), errors.MazeError.__bases__)
        self.assertTrue(issubclass(errors.MazeError, ValueError))

    def test_every_error_is_directly_below_maze_error(self):
        for name in [name for names in WITH_A_VALUE.values() for name in names] + BARE:
            with self.subTest(name):
                self.assertEqual((errors.MazeError,), getattr(errors, name).__bases__)
                self.assertEqual("roomsthrough.errors", getattr(errors, name).__module__)

    def test_there_are_just_these_errors(self):
        there = {name for name in vars(errors) if isinstance(getattr(errors, name), type)}
        listed = {name for names in WITH_A_VALUE.values() for name in names} | set(BARE) | {"MazeError"}
        self.assertEqual(listed, there)

    def test_what_an_error_is_made_with_is_kept_under_its_name(self):
        for attribute, names in WITH_A_VALUE.items():
            for name in names:
                for value in anything():
                    self.assertIs(value, getattr(getattr(errors, name)(value), attribute))

    def test_an_error_with_a_value_takes_just_one(self):
        for names in WITH_A_VALUE.values():
            for name in names:
                with self.subTest(name):
                    self.assertRaises(TypeError, getattr(errors, name))
                    self.assertRaises(TypeError, getattr(errors, name), 1, 2)

    def test_bare_errors_are_made_with_nothing(self):
        for name in BARE:
            with self.subTest(name):
                self.assertIsInstance(getattr(errors, name)(), errors.MazeError)
                self.assertEqual({}, vars(getattr(errors, name)()))

    def test_the_text_of_an_error_can_be_told_for_any_value(self):
        for value in anything():
            self.assertIsInstance(str(errors.BadRules(value)), str)


if __name__ == "__main__":
    unittest.main()
