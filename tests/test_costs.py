import random
import unittest

from anything import anything, wanted_error
from naive import ALL_RULES, naive_costs, random_level, random_room
from roomsthrough.costs import costs, costs_of
from roomsthrough.errors import BadLevel, BadRoom, BadRules, TooMany
from roomsthrough.levels import Level, row_of
from roomsthrough.middle import table
from roomsthrough.moving import come_back
from roomsthrough.rooms import Room
from roomsthrough.rules import Rules
from roomsthrough.states import begin, steps
from test_middle import DOOR_ROOM, EXAMPLE, FULL_ROOM, LARGE_ROOM, MOUTH_ROOM
from test_tables import every_outcome

RULES = Rules()
NOTHING = (0, 0)


def in_order(rules):
    return [(bag, outcome) for bag in rules.bags() for outcome in every_outcome(rules)]


def random_inner(chance, rules, most):
    return {key: chance.randint(1, most) for key in in_order(rules) if chance.random() < 0.5}


def costs_again(room, rules, inner):
    """The costs by going over all states again and again until no number gets less."""
    found = {}
    for bag in rules.bags():
        numbers = {begin(room, rules, bag): 0}
        changed = True
        while changed:
            changed = False
            for state in list(numbers):
                leads = [(after, 1) for _, after in steps(room, rules, state)]
                mark = room.cell(state[0])
                if mark in "12" and int(mark) not in state[3]:
                    for (carried, outcome), cost in inner[int(mark) - 1].items():
                        if carried == state[4] and outcome == "star":
                            key = (bag, "star")
                            found[key] = min(found.get(key, numbers[state] + 1 + cost), numbers[state] + 1 + cost)
                        elif carried == state[4]:
                            leads.append((come_back(state, int(mark), outcome), cost + 1))
                for after, more in leads:
                    if numbers.get(after, numbers[state] + more + 1) > numbers[state] + more:
                        numbers[after] = numbers[state] + more
                        changed = True
        for state, number in numbers.items():
            mark = room.cell(state[0])
            if mark in "@*":
                key, cost = (bag, "star" if mark == "*" else state[4]), number + (mark == "@")
                found[key] = min(found.get(key, cost), cost)
    return {key: found[key] for key in in_order(rules) if key in found}


class CostsTest(unittest.TestCase):
    def test_the_example_of_the_document(self):
        told = costs(EXAMPLE, RULES)
        self.assertEqual(3, told[(NOTHING, (1, 0))])
        self.assertEqual(5, told[(NOTHING, "star")])
        self.assertEqual(1, told[(NOTHING, NOTHING)])
        wanted = [
            ((NOTHING, NOTHING), 1), ((NOTHING, (1, 0)), 3), ((NOTHING, "star"), 5),
            (((0, 1), (0, 1)), 1), (((0, 1), (1, 1)), 3), (((0, 1), "star"), 5),
            (((1, 0), (1, 0)), 1), (((1, 1), (1, 1)), 1),
        ]
        self.assertEqual(wanted, list(told.items()))
        self.assertIsInstance(told, dict)

    def test_each_letter_costs_one(self):
        room = Room(["@1*"])
        self.assertEqual(2, costs(Level(room, [Level(Room(["@"]))]), RULES)[(NOTHING, "star")])
        self.assertEqual(3, costs(Level(Room(["@1"]), [Level(Room(["@*"]))]), RULES)[(NOTHING, "star")])
        level = Level(Room(["@1"]), [Level(Room(["@a"]))])
        self.assertEqual(7, costs(level, RULES)[(NOTHING, (1, 0))])
        self.assertEqual(1, costs(level, RULES)[((1, 1), (1, 1))])

    def test_the_cheaper_of_two_ways(self):
        level = Level(Room(["*....@", "...2.1"]), [Level(Room(["@....*"])), Level(Room(["@*"]))])
        self.assertEqual(5, costs(level, RULES)[(NOTHING, "star")])
        level = Level(Room(["1@.2.."]), [Level(Room(["@...*"])), Level(Room(["@*"]))])
        self.assertEqual(4, costs(level, RULES)[(NOTHING, "star")])

    def test_levels_against_all_their_plays(self):
        chance = random.Random(51)
        compared = 0
        for number in range(400):
            rules = ALL_RULES[number % 8]
            level = random_level(chance, 1 + number % 4, 8)
            told = costs(level, rules)
            self.assertEqual([key for key in in_order(rules) if key in told], list(told))
            for bag in rules.bags():
                wanted = naive_costs(level, rules, bag)
                if wanted is not None:
                    compared += 1
                    found = {outcome: cost for (carried, outcome), cost in told.items() if carried == bag}
                    self.assertEqual(wanted, found)
        self.assertGreater(compared, 2000)

    def test_outcomes_are_those_of_the_table(self):
        chance = random.Random(52)
        for number in range(200):
            rules = ALL_RULES[number % 8]
            level = random_level(chance, 1 + number % 5, 10)
            found = table(level, rules)
            wanted = [(bag, outcome) for bag in rules.bags() for outcome in found.outcomes(bag)]
            self.assertEqual(wanted, list(costs(level, rules)))

    def test_long_rows(self):
        for number in (0, 1, 2, 58, 59):
            level = row_of(Room(["@.1"]), Level(Room(["@*"])), number)
            self.assertEqual(3 * number + 1, costs(level, RULES)[(NOTHING, "star")])

    def test_equal_parts_at_other_places(self):
        part = Level(Room(["@a*"]))
        level = Level(Room(["1@2"]), [part, Level(Room(["@1"]), [part])])
        self.assertEqual(4, costs(level, RULES)[(NOTHING, "star")])
        level = Level(Room(["1@#2"]), [part, part])
        self.assertEqual(4, costs(level, RULES)[(NOTHING, "star")])
        level = Level(Room(["1@.2"]), [Level(Room(["@a"])), part])
        self.assertEqual(5, costs(level, RULES)[(NOTHING, "star")])
        level = Level(Room(["1@.2"]), [Level(Room(["@a"])), Level(Room(["@A.*"]))])
        self.assertEqual(12, costs(level, RULES)[(NOTHING, "star")])


class CostsOfTest(unittest.TestCase):
    def test_a_level_is_its_room_and_the_costs_of_its_children(self):
        chance = random.Random(61)
        for number in range(200):
            rules = ALL_RULES[number % 8]
            level = random_level(chance, 1 + number % 5, 9)
            inner = [costs(child, rules) for child in level.children]
            for row in (inner, tuple(inner)):
                again = costs_of(level.room, rules, row)
                self.assertEqual(list(costs(level, rules).items()), list(again.items()))

    def test_costs_that_no_level_has(self):
        chance = random.Random(62)
        for number in range(240):
            rules = ALL_RULES[number % 8]
            room = random_room(chance, number % 3, 8)
            inner = [random_inner(chance, rules, (3, 40, 10 ** 30)[number % 3]) for _ in range(room.mouths)]
            wanted = costs_again(room, rules, inner)
            self.assertEqual(list(wanted.items()), list(costs_of(room, rules, inner).items()))

    def test_by_hand(self):
        room = Room(["@1*"])
        self.assertEqual({(bag, bag): 1 for bag in RULES.bags()}, costs_of(Room(["@1"]), RULES, [{}]))
        told = costs_of(Room(["@1"]), RULES, [{(NOTHING, (1, 1)): 10 ** 18, (NOTHING, "star"): 7, ((1, 1), "star"): 2}])
        self.assertEqual(10 ** 18 + 4, told[(NOTHING, (1, 1))])
        self.assertEqual(9, told[(NOTHING, "star")])
        self.assertEqual(4, told[((1, 1), "star")])
        self.assertNotIn(((0, 1), "star"), told)
        self.assertEqual(2, costs_of(room, RULES, [{(NOTHING, "star"): 1}])[(NOTHING, "star")])

    def test_a_dear_way_at_first_and_a_cheap_one_later(self):
        room = Room(["1@.2"])
        inner = [{(NOTHING, (1, 0)): 100}, {(NOTHING, (1, 0)): 1}]
        self.assertEqual(7, costs_of(room, RULES, inner)[(NOTHING, (1, 0))])
        self.assertEqual(104, costs_of(room, RULES, [inner[0], {}])[(NOTHING, (1, 0))])

    def test_both_mouths_one_behind_the_other(self):
        room = Room(["1@2"])
        inner = [{(NOTHING, (1, 0)): 3}, {((1, 0), (1, 1)): 4, (NOTHING, (1, 0)): 50}]
        self.assertEqual(14, costs_of(room, RULES, inner)[(NOTHING, (1, 1))])

    def test_dicts_are_new_and_nothing_is_changed(self):
        inner = [{(NOTHING, (1, 0)): 3}]
        room = Room(["@1"])
        costs_of(room, RULES, inner).clear()
        self.assertEqual([{(NOTHING, (1, 0)): 3}], inner)
        self.assertEqual(7, costs_of(room, RULES, inner)[(NOTHING, (1, 0))])
        costs(EXAMPLE, RULES).clear()
        self.assertEqual(8, len(costs(EXAMPLE, RULES)))


class ErrorTest(unittest.TestCase):
    def test_in_their_order(self):
        for thing in anything():
            if not isinstance(thing, Level):
                wanted_error(self, BadLevel, "value", thing, costs, thing, None)
            if not isinstance(thing, Rules):
                wanted_error(self, BadRules, "value", thing, costs, EXAMPLE, thing)
                wanted_error(self, BadRules, "value", thing, costs, Level(LARGE_ROOM), thing)
                wanted_error(self, BadRules, "value", thing, costs_of, Room(["@"]), thing, [])
            if not isinstance(thing, Room):
                wanted_error(self, BadRoom, "value", thing, costs_of, thing, None, [])

    def test_as_many_states_as_are_let(self):
        self.assertEqual(1, costs(Level(FULL_ROOM), RULES)[(NOTHING, NOTHING)])
        self.assertEqual(1, costs_of(FULL_ROOM, RULES, [])[(NOTHING, NOTHING)])
        self.assertEqual(1, costs(Level(Room(["@#1"]), [Level(FULL_ROOM)]), RULES)[(NOTHING, NOTHING)])

    def test_too_many_states(self):
        for room in (LARGE_ROOM, DOOR_ROOM):
            wanted_error(self, TooMany, None, None, costs, Level(room), RULES)
            wanted_error(self, TooMany, None, None, costs_of, room, RULES, [])

    def test_in_any_room_also_where_it_cannot_be_reached(self):
        for above in (Room(["@1"]), Room(["@#1"])):
            wanted_error(self, TooMany, None, None, costs, Level(above, [Level(LARGE_ROOM)]), RULES)
        deep = row_of(Room(["@#1"]), Level(DOOR_ROOM), 59)
        wanted_error(self, TooMany, None, None, costs, deep, RULES)

    def test_the_costs_of_the_children_count(self):
        self.assertEqual(1, costs_of(MOUTH_ROOM, RULES, [{}])[(NOTHING, NOTHING)])
        wanted_error(self, TooMany, None, None, costs_of, MOUTH_ROOM, RULES, [{(NOTHING, NOTHING): 10 ** 9}])
        self.assertIn((NOTHING, "star"), costs_of(MOUTH_ROOM, RULES, [{(NOTHING, "star"): 1}]))


if __name__ == "__main__":
    unittest.main()
