"""What holds for all rooms: the other side, exchanged colours, and books of rules that let more."""

import random
import unittest

from naive import ALL_RULES, all_states, random_level, random_room
from roomsthrough.costs import costs
from roomsthrough.levels import Level
from roomsthrough.middle import table, table_of
from roomsthrough.rooms import Room
from roomsthrough.states import is_state, step, steps
from test_tables import every_outcome, random_table

TURNED = {"u": "u", "d": "d", "l": "r", "r": "l", "U": "U", "D": "D", "L": "R", "R": "L"}
COLOURS = {"a": "b", "b": "a", "A": "B", "B": "A"}


def mirrored_level(level):
    return Level(level.room.mirrored(), [mirrored_level(child) for child in level.children])


def mirrored_state(room, state):
    width = len(room.rows[0])

    def turned(cell):
        return cell // width * width + width - 1 - cell % width

    at, crates, gone, used, bag = state
    return (turned(at), tuple(sorted(map(turned, crates))), tuple(sorted(map(turned, gone))), used, bag)


def exchanged_room(room):
    return Room(["".join([COLOURS.get(mark, mark) for mark in row]) for row in room.rows])


def exchanged_level(level):
    return Level(exchanged_room(level.room), [exchanged_level(child) for child in level.children])


def turned_about(outcome):
    return outcome if outcome == "star" else outcome[::-1]


class MirroredTest(unittest.TestCase):
    def test_steps(self):
        chance = random.Random(71)
        for number in range(80):
            room, rules = random_room(chance, number % 3, 8), ALL_RULES[number % 8]
            for state in all_states(room, rules):
                other = mirrored_state(room, state)
                self.assertTrue(is_state(room.mirrored(), rules, other))
                for letter, after in steps(room, rules, state):
                    found = step(room.mirrored(), rules, other, TURNED[letter])
                    self.assertEqual(mirrored_state(room, after), found)
                self.assertEqual(len(steps(room, rules, state)), len(steps(room.mirrored(), rules, other)))

    def test_tables_and_costs(self):
        chance = random.Random(72)
        for number in range(120):
            level, rules = random_level(chance, 1 + number % 4, 10), ALL_RULES[number % 8]
            self.assertTrue(table(level, rules) == table(mirrored_level(level), rules))
            self.assertEqual(list(costs(level, rules).items()), list(costs(mirrored_level(level), rules).items()))


class ExchangedTest(unittest.TestCase):
    def test_steps(self):
        chance = random.Random(73)
        for number in range(80):
            room, rules = random_room(chance, number % 3, 8), ALL_RULES[number % 8]
            for state in all_states(room, rules):
                found = steps(exchanged_room(room), rules, state[:4] + (state[4][::-1],))
                wanted = [(letter, after[:4] + (after[4][::-1],)) for letter, after in steps(room, rules, state)]
                self.assertEqual(wanted, found)

    def test_tables_and_costs(self):
        chance = random.Random(74)
        for number in range(120):
            level, rules = random_level(chance, 1 + number % 4, 10), ALL_RULES[number % 8]
            found, other = table(level, rules), table(exchanged_level(level), rules)
            told = costs(exchanged_level(level), rules)
            for bag in rules.bags():
                turned = [turned_about(outcome) for outcome in found.outcomes(bag)]
                self.assertEqual([o for o in every_outcome(rules) if o in turned], other.outcomes(bag[::-1]))
            turned = {(bag[::-1], turned_about(outcome)): cost for (bag, outcome), cost in costs(level, rules).items()}
            self.assertEqual(turned, told)


class BooksTest(unittest.TestCase):
    def more(self, rules):
        return [
            other for other in ALL_RULES
            if other.cap >= rules.cap and other.strong >= rules.strong and other.pull >= rules.pull
        ]

    def test_each_step_is_let_by_rules_that_let_more(self):
        chance = random.Random(75)
        for number in range(60):
            room, rules = random_room(chance, number % 3, 8), ALL_RULES[number % 8]
            for state in all_states(room, rules):
                for letter, after in steps(room, rules, state):
                    for other in self.more(rules):
                        self.assertEqual(after, step(room, other, state, letter))

    def test_each_outcome_stays_and_gets_no_dearer(self):
        chance = random.Random(76)
        for number in range(60):
            level, rules = random_level(chance, 1 + number % 3, 8), ALL_RULES[number % 8]
            told = costs(level, rules)
            for other in self.more(rules):
                more = costs(level, other)
                for key in told:
                    self.assertLessEqual(more[key], told[key])

    def test_more_outcomes_of_a_child_never_take_one_away(self):
        chance = random.Random(77)
        for number in range(100):
            room, rules = random_room(chance, 1 + number % 2, 8), ALL_RULES[number % 8]
            one = [random_table(chance, rules) for _ in range(room.mouths)]
            more = [each | random_table(chance, rules) for each in one]
            self.assertTrue(table_of(room, rules, one).within(table_of(room, rules, more)))

    def test_what_only_one_part_of_the_rules_lets(self):
        rows_and_costs = [
            (["@oop", "#g##", "#*##"], 3, lambda rules: rules.strong),
            (["o.p.g*", "#@####"], 5, lambda rules: rules.pull),
            (["@aaAA*"], 5, lambda rules: rules.cap == 2),
        ]
        for rows, cost, lets in rows_and_costs:
            for rules in ALL_RULES:
                told = costs(Level(Room(rows)), rules)
                self.assertEqual(cost if lets(rules) else None, told.get(((0, 0), "star")), rows)


if __name__ == "__main__":
    unittest.main()
