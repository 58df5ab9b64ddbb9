import unittest

from anything import anything, is_whole, wanted_error
from naive import ALL_RULES
from roomsthrough.errors import BadRules
from roomsthrough.rules import Rules


class RulesTest(unittest.TestCase):
    def test_what_is_given_is_told(self):
        for cap in (1, 2):
            for strong in (False, True):
                for pull in (False, True):
                    rules = Rules(cap, strong, pull)
                    self.assertEqual((cap, strong, pull), (rules.cap, rules.strong, rules.pull))
                    self.assertIs(strong, rules.strong)
                    self.assertIs(pull, rules.pull)

    def test_what_is_not_given(self):
        rules = Rules()
        self.assertEqual((1, False, False), (rules.cap, rules.strong, rules.pull))
        self.assertIs(False, rules.strong)
        self.assertIs(False, rules.pull)
        self.assertEqual((2, False, False), (Rules(2).cap, Rules(2).strong, Rules(2).pull))
        self.assertEqual((2, True, False), (Rules(2, True).cap, Rules(2, True).strong, Rules(2, True).pull))

    def test_names_of_the_arguments(self):
        rules = Rules(pull=True, cap=2, strong=False)
        self.assertEqual((2, False, True), (rules.cap, rules.strong, rules.pull))

    def test_wrong_caps(self):
        for cap in anything():
            if is_whole(cap) and cap in (1, 2):
                self.assertEqual(cap, Rules(cap).cap)
            else:
                wanted_error(self, BadRules, "value", cap, Rules, cap)

    def test_wrong_strong_and_pull(self):
        for thing in anything():
            if thing is not True and thing is not False:
                wanted_error(self, BadRules, "value", thing, Rules, 1, thing)
                wanted_error(self, BadRules, "value", thing, Rules, 1, True, thing)

    def test_the_first_wrong_one_is_told(self):
        wanted_error(self, BadRules, "value", 0, Rules, 0, None, "p")
        wanted_error(self, BadRules, "value", True, Rules, True, None, "p")
        wanted_error(self, BadRules, "value", None, Rules, 2, None, "p")
        wanted_error(self, BadRules, "value", "p", Rules, 2, False, "p")
        wanted_error(self, BadRules, "value", 1, Rules, 2, 1, 0)
        wanted_error(self, BadRules, "value", 0, Rules, 2, True, 0)


class BagsTest(unittest.TestCase):
    def test_bags_of_cap_one(self):
        for strong in (False, True):
            self.assertEqual([(0, 0), (0, 1), (1, 0), (1, 1)], Rules(1, strong, not strong).bags())

    def test_bags_of_cap_two(self):
        bags = [(0, 0), (0, 1), (0, 2), (1, 0), (1, 1), (1, 2), (2, 0), (2, 1), (2, 2)]
        self.assertEqual(bags, Rules(2).bags())

    def test_the_list_is_new_each_time(self):
        rules = Rules()
        rules.bags().clear()
        self.assertEqual(4, len(rules.bags()))
        self.assertIsInstance(rules.bags(), list)


class EqualityTest(unittest.TestCase):
    def test_equal_if_all_three_are(self):
        for at, one in enumerate(ALL_RULES):
            for other_at, other in enumerate(ALL_RULES):
                again = Rules(other.cap, other.strong, other.pull)
                self.assertIs(at == other_at, one == again)
                self.assertIs(at != other_at, one != again)

    def test_unequal_to_everything_else(self):
        for thing in anything():
            if not isinstance(thing, Rules):
                self.assertFalse(Rules() == thing)
                self.assertFalse(thing == Rules())
                self.assertTrue(Rules() != thing)


if __name__ == "__main__":
    unittest.main()
