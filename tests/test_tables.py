import itertools
import random
import unittest

from anything import anything, wanted_error
from naive import ALL_RULES
from roomsthrough.errors import BadBag, BadOutcome, BadRules, BadTable
from roomsthrough.rules import Rules
from roomsthrough.tables import Table, none, same, then

RULES = Rules()
FULL = {(0, 0): [(0, 0), "star"], (0, 1): [], (1, 0): [(0, 1), (1, 0), (1, 1), "star"], (1, 1): ["star"]}


def every_outcome(rules):
    return rules.bags() + ["star"]


def random_table(chance, rules):
    return Table(rules, {bag: [out for out in every_outcome(rules) if chance.random() < 0.4] for bag in rules.bags()})


def rows_of(table):
    return {bag: table.outcomes(bag) for bag in table.rules.bags()}


def with_row(row, bag=(0, 1)):
    rows = dict(FULL)
    rows[bag] = row
    return rows


class MakingTest(unittest.TestCase):
    def test_outcomes_are_listed_in_their_order(self):
        outcomes = [(0, 0), (0, 1), (1, 0), (1, 1), "star"]
        for order in itertools.permutations(outcomes):
            for kind in (list, tuple):
                table = Table(RULES, with_row(kind(order)))
                self.assertEqual(outcomes, table.outcomes((0, 1)))
                self.assertIsInstance(table.outcomes((0, 1)), list)
        self.assertEqual(rows_of(Table(RULES, FULL)), FULL)

    def test_keys_in_any_order(self):
        rows = {bag: FULL[bag] for bag in reversed(RULES.bags())}
        self.assertTrue(Table(RULES, rows) == Table(RULES, FULL))

    def test_the_rules_are_kept(self):
        for rules in ALL_RULES:
            self.assertTrue(none(rules).rules == rules)

    def test_rows_are_copied_and_told_anew(self):
        row = ["star", (0, 0)]
        rows = with_row(row)
        table = Table(RULES, rows)
        row.clear()
        rows.clear()
        self.assertEqual([(0, 0), "star"], table.outcomes((0, 1)))
        table.outcomes((0, 1)).clear()
        self.assertEqual([(0, 0), "star"], table.outcomes((0, 1)))

    def test_what_is_passed_stays_as_it_was(self):
        rows = with_row(["star", (1, 0), (0, 1)])
        Table(RULES, rows)
        self.assertEqual(with_row(["star", (1, 0), (0, 1)]), rows)

    def test_wrong_rules(self):
        for thing in anything():
            if not isinstance(thing, Rules):
                wanted_error(self, BadRules, "value", thing, Table, thing, None)
                wanted_error(self, BadRules, "value", thing, same, thing)
                wanted_error(self, BadRules, "value", thing, none, thing)

    def test_no_dict_with_just_the_bags_as_keys(self):
        for thing in anything():
            if thing != {bag: [] for bag in RULES.bags()}:
                wanted_error(self, BadTable, "value", -1, Table, RULES, thing)
        for bag in RULES.bags():
            wanted_error(self, BadTable, "value", -1, Table, RULES, {k: FULL[k] for k in FULL if k != bag})
            spoilt = {k: FULL[k] for k in FULL if k != bag}
            spoilt[(0, 2)] = []
            wanted_error(self, BadTable, "value", -1, Table, RULES, spoilt)
        for key in ((0, 2), (2, 0), None, "star", (0,), 0):
            wanted_error(self, BadTable, "value", -1, Table, RULES, {**FULL, key: []})
        wanted_error(self, BadTable, "value", -1, Table, Rules(2), FULL)
        wanted_error(self, BadTable, "value", -1, Table, RULES, {bag: [] for bag in Rules(2).bags()})
        wanted_error(self, BadTable, "value", -1, Table, RULES, list(FULL.items()))

    def test_keys_with_flags_are_no_bags(self):
        rows = {(0, 0): [], (0, True): [], (1, 0): [], (1, 1): []}
        wanted_error(self, BadTable, "value", -1, Table, RULES, rows)
        rows = {(False, False): [], (0, 1): [], (1, 0): [], (1, 1): []}
        wanted_error(self, BadTable, "value", -1, Table, RULES, rows)

    def test_wrong_keys_come_ahead_of_wrong_rows(self):
        wanted_error(self, BadTable, "value", -1, Table, RULES, {**FULL, (0, 0): None, (5, 5): []})

    def test_every_thing_that_is_no_row(self):
        for thing in anything() + ["star", {(0, 0): 1}, {"star": 1}]:
            if isinstance(thing, (list, tuple)) and thing in ([], (), [(0, 0)], ("star",), ["star"]):
                continue
            for bag in RULES.bags():
                wanted_error(self, BadTable, "value", bag, Table, RULES, with_row(thing, bag))

    def test_every_thing_that_is_no_outcome(self):
        for thing in anything() + [(0, 2), (2, 2), (1, True), (False, 0), [0, 0], "Star", "star "]:
            if isinstance(thing, str) and thing == "star":
                continue
            if isinstance(thing, tuple) and thing in RULES.bags() and not any(isinstance(k, bool) for k in thing):
                continue
            wanted_error(self, BadTable, "value", (0, 1), Table, RULES, with_row([thing]))
            wanted_error(self, BadTable, "value", (1, 1), Table, RULES, with_row(((1, 0), thing, "star"), (1, 1)))

    def test_no_outcome_twice(self):
        for outcome in every_outcome(RULES):
            wanted_error(self, BadTable, "value", (1, 0), Table, RULES, with_row([outcome, outcome], (1, 0)))
            row = (outcome, (0, 0), "star", outcome)
            wanted_error(self, BadTable, "value", (0, 0), Table, RULES, with_row(row, (0, 0)))

    def test_outcomes_of_the_cap(self):
        rows = {bag: [(2, 2)] for bag in Rules(2).bags()}
        self.assertEqual([(2, 2)], Table(Rules(2), rows).outcomes((2, 0)))
        wanted_error(self, BadTable, "value", (0, 0), Table, RULES, {bag: [(2, 2)] for bag in RULES.bags()})

    def test_the_least_bag_is_told(self):
        for wrong in itertools.product((False, True), repeat=4):
            rows = {bag: None if is_wrong else [] for bag, is_wrong in zip(RULES.bags(), wrong)}
            if any(wrong):
                least = RULES.bags()[wrong.index(True)]
                wanted_error(self, BadTable, "value", least, Table, RULES, rows)
                wanted_error(self, BadTable, "value", least, Table, RULES, {k: rows[k] for k in reversed(list(rows))})


class AskingTest(unittest.TestCase):
    table = Table(RULES, FULL)

    def test_lets(self):
        for bag in RULES.bags():
            for outcome in every_outcome(RULES):
                self.assertIs(outcome in FULL[bag], self.table.lets(bag, outcome))

    def test_wrong_bags(self):
        for thing in anything() + [(1, 2), (0, True), [0, 1]]:
            if not isinstance(thing, tuple) or thing not in RULES.bags() or any(isinstance(k, bool) for k in thing):
                wanted_error(self, BadBag, "value", thing, self.table.outcomes, thing)
                wanted_error(self, BadBag, "value", thing, self.table.lets, thing, None)
        wanted_error(self, BadBag, "value", (2, 0), self.table.outcomes, (2, 0))
        self.assertEqual([], none(Rules(2)).outcomes((2, 0)))

    def test_wrong_outcomes(self):
        for thing in anything() + [(1, 2), (0, True), [0, 1], "Star"]:
            if isinstance(thing, str) and thing == "star":
                continue
            if not isinstance(thing, tuple) or thing not in RULES.bags() or any(isinstance(k, bool) for k in thing):
                wanted_error(self, BadOutcome, "value", thing, self.table.lets, (0, 0), thing)

    def test_equal_if_rules_and_outcomes_are(self):
        self.assertTrue(Table(RULES, FULL) == Table(Rules(), with_row((), (0, 1))))
        self.assertFalse(Table(RULES, FULL) != Table(Rules(), FULL))
        self.assertTrue(Table(RULES, with_row(["star", (0, 0)])) == Table(RULES, with_row(((0, 0), "star"))))
        self.assertFalse(Table(RULES, FULL) == Table(RULES, with_row(["star"])))
        self.assertFalse(Table(RULES, FULL) == Table(Rules(1, True), FULL))
        self.assertFalse(Table(RULES, FULL) == Table(Rules(1, False, True), FULL))
        self.assertFalse(none(RULES) == none(Rules(2)))
        self.assertTrue(none(RULES) != none(Rules(2)))

    def test_unequal_to_everything_else(self):
        for thing in anything() + [FULL]:
            if not isinstance(thing, Table):
                self.assertFalse(self.table == thing)
                self.assertTrue(self.table != thing)


class CalculusTest(unittest.TestCase):
    def both(self, count=200):
        chance = random.Random(3)
        for number in range(count):
            rules = ALL_RULES[number % 8]
            yield rules, random_table(chance, rules), random_table(chance, rules)

    def test_within(self):
        for rules, one, other in self.both():
            wanted = all(set(one.outcomes(bag)) <= set(other.outcomes(bag)) for bag in rules.bags())
            self.assertIs(wanted, one.within(other))
            self.assertIs(True, one.within(one))
            self.assertIs(True, none(rules).within(one))
            self.assertIs(True, one.within(one | other))
            self.assertIs(True, other.within(one | other))

    def test_within_at_one_outcome(self):
        table = Table(RULES, FULL)
        for bag in RULES.bags():
            for outcome in FULL[bag]:
                less = Table(RULES, with_row([out for out in FULL[bag] if out != outcome], bag))
                self.assertIs(True, less.within(table))
                self.assertIs(False, table.within(less))

    def test_or(self):
        for rules, one, other in self.both():
            both = one | other
            self.assertIsInstance(both, Table)
            self.assertTrue(both.rules == rules)
            for bag in rules.bags():
                wanted = [o for o in every_outcome(rules) if o in one.outcomes(bag) or o in other.outcomes(bag)]
                self.assertEqual(wanted, both.outcomes(bag))
            self.assertTrue(one | none(rules) == one)
            self.assertTrue(one | one == one)

    def test_then(self):
        for rules, one, other in self.both():
            told = then(one, other)
            self.assertTrue(told.rules == rules)
            for bag in rules.bags():
                wanted = {"star"} if "star" in one.outcomes(bag) else set()
                for between in one.outcomes(bag):
                    if between != "star":
                        wanted |= set(other.outcomes(between))
                self.assertEqual([o for o in every_outcome(rules) if o in wanted], told.outcomes(bag))

    def test_then_by_hand(self):
        one = Table(RULES, {(0, 0): [(1, 0)], (0, 1): ["star"], (1, 0): [(0, 0), (0, 1)], (1, 1): []})
        other = Table(RULES, {(0, 0): [(1, 1)], (0, 1): [(1, 0), (0, 0)], (1, 0): ["star"], (1, 1): [(0, 0)]})
        wanted = {(0, 0): ["star"], (0, 1): ["star"], (1, 0): [(0, 0), (1, 0), (1, 1)], (1, 1): []}
        self.assertEqual(wanted, rows_of(then(one, other)))

    def test_same_and_none(self):
        for rules in ALL_RULES:
            self.assertEqual({bag: [bag] for bag in rules.bags()}, rows_of(same(rules)))
            self.assertEqual({bag: [] for bag in rules.bags()}, rows_of(none(rules)))
            self.assertTrue(same(rules).rules == rules)
        for rules, one, _ in self.both(40):
            self.assertTrue(then(same(rules), one) == one)
            self.assertTrue(then(one, same(rules)) == one)
            self.assertTrue(then(none(rules), one) == none(rules))

    def test_nothing_is_changed(self):
        for _, one, other in self.both(40):
            before = (rows_of(one), rows_of(other))
            one | other
            then(one, other)
            one.within(other)
            self.assertEqual(before, (rows_of(one), rows_of(other)))

    def test_other_things_and_other_rules(self):
        one = Table(RULES, FULL)
        others = [none(rules) for rules in ALL_RULES if rules != RULES]
        for thing in anything() + others:
            if isinstance(thing, Table) and thing.rules == RULES:
                continue
            wanted_error(self, BadTable, "value", thing, one.within, thing)
            wanted_error(self, BadTable, "value", thing, lambda: one | thing)
            wanted_error(self, BadTable, "value", thing, then, one, thing)
            if not isinstance(thing, Table):
                wanted_error(self, BadTable, "value", thing, then, thing, None)
                wanted_error(self, BadTable, "value", thing, then, thing, one)


if __name__ == "__main__":
    unittest.main()
