import random
import unittest

from anything import anything, wanted_error
from naive import ALL_RULES, all_states, naive_costs, random_level, random_room
from roomsthrough.errors import BadBag, BadLevel, BadOutcome, BadRoom, BadRules, BadTable, TooMany
from roomsthrough.levels import Level, row_of
from roomsthrough.middle import is_closed, met, table, table_of
from roomsthrough.rooms import Room
from roomsthrough.rules import Rules
from roomsthrough.states import begin, is_state, steps
from roomsthrough.tables import Table, none, same
from test_tables import every_outcome, random_table

RULES = Rules()
KEY = Room(["@a1"])
DOOR = Room(["@A*"])
EXAMPLE = Level(KEY, [Level(DOOR)])

# How many states can be met in them, by a count of the tests' own: just 3000 with the bag (0, 0), just 3001.
FULL_ROOM = Room(["px@.", "ao..", "..a.", "..o.", "...."])
LARGE_ROOM = Room(["a...", "bo..", ".o.x", "@.<x", "b..."])
# With a way into the mouth there are too many states, without one there are not.
MOUTH_ROOM = Room(["@....", ".o...", "...o.", "....1"])
# Only who comes with a key of colour a can meet too many.
DOOR_ROOM = Room(["@....A", ".o..o.", "......"])


def behind(room, tables, state):
    """The states that a child's bag leads to, told without the package's own search."""
    at, crates, gone, used, bag = state
    mark = room.cell(at)
    if mark not in "12" or int(mark) in used:
        return []
    outcomes = tables[int(mark) - 1].outcomes(bag)
    return [(at, crates, gone, tuple(sorted([*used, int(mark)])), out) for out in outcomes if out != "star"]


def met_again(room, rules, tables, bag):
    found = {begin(room, rules, bag)}
    todo = list(found)
    while todo:
        state = todo.pop()
        for after in [after for _, after in steps(room, rules, state)] + behind(room, tables, state):
            if after not in found:
                found.add(after)
                todo.append(after)
    return sorted(found)


def told_by(room, tables, states):
    told = set()
    for at, _, _, used, bag in states:
        mark = room.cell(at)
        if mark == "@":
            told.add(bag)
        if mark == "*":
            told.add("star")
        if mark in "12" and int(mark) not in used and tables[int(mark) - 1].lets(bag, "star"):
            told.add("star")
    return told


class TableTest(unittest.TestCase):
    def test_the_example_of_the_document(self):
        self.assertEqual([(1, 0)], table(EXAMPLE, RULES).outcomes((1, 0)))
        self.assertEqual([(0, 0), (1, 0), "star"], table(EXAMPLE, RULES).outcomes((0, 0)))
        self.assertEqual([(0, 1), (1, 1), "star"], table(EXAMPLE, RULES).outcomes((0, 1)))
        self.assertEqual([(1, 1)], table(EXAMPLE, RULES).outcomes((1, 1)))

    def test_rooms_alone(self):
        self.assertTrue(table(Level(Room(["@"])), RULES) == same(RULES))
        self.assertEqual([(1, 1), "star"], table(Level(Room(["@*"])), RULES).outcomes((1, 1)))
        self.assertEqual([(0, 0)], table(Level(Room(["@#*"])), RULES).outcomes((0, 0)))
        self.assertEqual([(0, 0), (0, 1)], table(Level(Room(["@b"])), RULES).outcomes((0, 0)))

    def test_a_mouth_is_gone_through_once(self):
        level = Level(KEY, [Level(Room(["@b"]))])
        self.assertEqual([(0, 0), (1, 0), (1, 1)], table(level, RULES).outcomes((0, 0)))
        level = Level(Room(["@1"]), [Level(Room(["@a"]))])
        self.assertEqual([(0, 0), (1, 0)], table(level, Rules(2)).outcomes((0, 0)))
        level = Level(Room(["1@2"]), [Level(Room(["@a"])), Level(Room(["@a"]))])
        self.assertEqual([(0, 0), (1, 0), (2, 0)], table(level, Rules(2)).outcomes((0, 0)))

    def test_a_child_that_nobody_can_come_back_from(self):
        self.assertTrue(table_of(Room(["@1"]), RULES, [none(RULES)]) == same(RULES))
        self.assertEqual([(0, 0), "star"], table_of(Room(["@1*"]), RULES, [none(RULES)]).outcomes((0, 0)))
        stars = Table(RULES, {bag: ["star"] for bag in RULES.bags()})
        self.assertEqual([(0, 0), "star"], table_of(Room(["@1"]), RULES, [stars]).outcomes((0, 0)))

    def test_a_fuller_bag_can_be_worse(self):
        level = Level(Room(["@a*"]))
        self.assertEqual([(0, 0), (1, 0), "star"], table(level, RULES).outcomes((0, 0)))
        self.assertEqual([(1, 0)], table(level, RULES).outcomes((1, 0)))
        self.assertEqual([(1, 0), (2, 0), "star"], table(level, Rules(2)).outcomes((1, 0)))

    def test_levels_against_all_their_plays(self):
        chance = random.Random(21)
        compared = 0
        for number in range(400):
            rules = ALL_RULES[number % 8]
            level = random_level(chance, 1 + number % 4, 8)
            found = table(level, rules)
            self.assertTrue(found.rules == rules)
            for bag in rules.bags():
                wanted = naive_costs(level, rules, bag)
                if wanted is not None:
                    compared += 1
                    self.assertEqual([o for o in every_outcome(rules) if o in wanted], found.outcomes(bag))
        self.assertGreater(compared, 2000)

    def test_table_is_table_of_the_first_room(self):
        chance = random.Random(22)
        for number in range(200):
            rules = ALL_RULES[number % 8]
            level = random_level(chance, 1 + number % 5, 9)
            tables = [table(child, rules) for child in level.children]
            self.assertTrue(table(level, rules) == table_of(level.room, rules, tables))
            self.assertTrue(table(level, rules) == table_of(level.room, rules, tuple(tables)))

    def test_a_child_for_another_one_with_an_equal_table(self):
        chance = random.Random(23)
        by_table = []
        for number in range(150):
            child = random_level(chance, 1 + number % 2, 6)
            found = table(child, RULES)
            for other, other_child in by_table:
                room = random_room(chance, 1, 9)
                one, two = Level(room, [child]), Level(room, [other_child])
                if found == other:
                    self.assertTrue(table(one, RULES) == table(two, RULES))
                elif found.within(other):
                    self.assertTrue(table(one, RULES).within(table(two, RULES)))
            if len(by_table) < 12:
                by_table.append((found, child))

    def test_tables_of_no_level(self):
        chance = random.Random(24)
        for number in range(200):
            rules = ALL_RULES[number % 8]
            room = random_room(chance, number % 3, 9)
            tables = [random_table(chance, rules) for _ in range(room.mouths)]
            found = table_of(room, rules, tables)
            for bag in rules.bags():
                told = told_by(room, tables, met_again(room, rules, tables, bag))
                self.assertEqual([o for o in every_outcome(rules) if o in told], found.outcomes(bag))

    def test_long_rows_and_large_trees(self):
        room = Room(["@.a", "A.1"])
        self.assertEqual([(0, 0), (1, 0), "star"], table(row_of(room, Level(Room(["@*"])), 59), RULES).outcomes((0, 0)))
        tree = Level(Room(["@*"]))
        for _ in range(4):
            tree = Level(Room(["1@2"]), [tree, tree])
        self.assertEqual(31, tree.rooms)
        self.assertEqual([(0, 0), "star"], table(tree, RULES).outcomes((0, 0)))


class ErrorTest(unittest.TestCase):
    def test_table(self):
        for thing in anything():
            if not isinstance(thing, Level):
                wanted_error(self, BadLevel, "value", thing, table, thing, None)
            if not isinstance(thing, Rules):
                wanted_error(self, BadRules, "value", thing, table, EXAMPLE, thing)

    def test_rooms_and_rules(self):
        for thing in anything():
            if not isinstance(thing, Room):
                wanted_error(self, BadRoom, "value", thing, table_of, thing, None, None)
                wanted_error(self, BadRoom, "value", thing, met, thing, None, None, None)
                wanted_error(self, BadRoom, "value", thing, is_closed, thing, None, None, None, None, None)
            if not isinstance(thing, Rules):
                wanted_error(self, BadRules, "value", thing, table_of, KEY, thing, None)
                wanted_error(self, BadRules, "value", thing, met, KEY, thing, None, None)
                wanted_error(self, BadRules, "value", thing, is_closed, KEY, thing, None, None, None, None)

    def test_rows_of_tables(self):
        rooms = [(Room(["@"]), 0), (Room(["@1"]), 1), (Room(["1@2"]), 2)]
        wrong = anything() + [[none(RULES)] * many for many in range(4)]
        wrong += [[none(RULES), none(Rules(2))], [none(Rules(1, True))], [none(RULES), None], (none(RULES),) * 3]
        wrong += [[None, none(RULES)], {0: none(RULES)}, none(RULES)]
        for room, mouths in rooms:
            for thing in wrong:
                is_right = isinstance(thing, (list, tuple)) and len(thing) == mouths
                if is_right and all(isinstance(one, Table) and one.rules == RULES for one in thing):
                    self.assertIsInstance(table_of(room, RULES, thing), Table)
                    continue
                wanted_error(self, BadTable, "value", -1, table_of, room, RULES, thing)
                wanted_error(self, BadTable, "value", -1, met, room, RULES, thing, None)
                wanted_error(self, BadTable, "value", -1, is_closed, room, RULES, thing, None, None, None)

    def test_tables_of_other_rules(self):
        for rules in ALL_RULES:
            for other in ALL_RULES:
                if rules != other:
                    wanted_error(self, BadTable, "value", -1, table_of, KEY, rules, [same(other)])

    def test_bags(self):
        for thing in anything() + [(2, 0), (0, True), [0, 0]]:
            if not isinstance(thing, tuple) or thing not in RULES.bags() or any(isinstance(k, bool) for k in thing):
                wanted_error(self, BadBag, "value", thing, met, DOOR, RULES, [], thing)
                wanted_error(self, BadBag, "value", thing, is_closed, DOOR, RULES, [], thing, None, None)

    def test_outcomes(self):
        wrong = anything() + ["star", [(0, 0), (2, 0)], [(True, 0)], ["star", None], {"star": 1}, [[0, 0]], [("star",)]]
        for thing in wrong:
            if isinstance(thing, (list, tuple)) and thing in ([], (), ["star"], ("star",), [(0, 0)]):
                self.assertIs(False, is_closed(DOOR, RULES, [], (0, 0), thing, None))
                continue
            wanted_error(self, BadOutcome, "value", thing, is_closed, DOOR, RULES, [], (0, 0), thing, None)


class MetTest(unittest.TestCase):
    def test_by_hand(self):
        self.assertEqual([(0, (), (), (), (1, 0))], met(KEY, RULES, [same(RULES)], (1, 0)))
        wanted = [
            (0, (), (), (), (0, 0)), (0, (), (1,), (), (1, 0)), (0, (), (1,), (1,), (0, 0)),
            (1, (), (1,), (), (1, 0)), (1, (), (1,), (1,), (0, 0)),
            (2, (), (1,), (), (1, 0)), (2, (), (1,), (1,), (0, 0)),
        ]
        back = Table(RULES, {(0, 0): [], (0, 1): [], (1, 0): [(0, 0), "star"], (1, 1): []})
        self.assertEqual(wanted, met(KEY, RULES, [back], (0, 0)))
        self.assertEqual([state for state in wanted if state[3] == ()], met(KEY, RULES, [none(RULES)], (0, 0)))
        self.assertEqual([(0, (), (), (), (0, 0)), (1, (), (), (), (0, 0))], met(Room(["@*"]), RULES, (), (0, 0)))

    def test_ascending_and_complete(self):
        chance = random.Random(31)
        for number in range(200):
            rules = ALL_RULES[number % 8]
            room = random_room(chance, number % 3, 10)
            tables = [random_table(chance, rules) for _ in range(room.mouths)]
            for bag in rules.bags():
                found = met(room, rules, tables, bag)
                self.assertIsInstance(found, list)
                self.assertEqual(met_again(room, rules, tables, bag), found)

    def test_the_list_is_new_each_time(self):
        found = met(KEY, RULES, [same(RULES)], (0, 0))
        found.clear()
        self.assertTrue(met(KEY, RULES, [same(RULES)], (0, 0)))


class TooManyTest(unittest.TestCase):
    def test_just_as_many_as_are_let(self):
        self.assertEqual(3000, len(met_again(FULL_ROOM, RULES, [], (0, 0))))
        self.assertEqual(3000, len(met(FULL_ROOM, RULES, [], (0, 0))))
        self.assertEqual([(0, 0), (1, 0)], table_of(FULL_ROOM, RULES, []).outcomes((0, 0)))
        self.assertEqual([(0, 0), (1, 0)], table(Level(FULL_ROOM), RULES).outcomes((0, 0)))

    def test_one_more(self):
        self.assertEqual(3001, len(met_again(LARGE_ROOM, RULES, [], (0, 0))))
        wanted_error(self, TooMany, None, None, met, LARGE_ROOM, RULES, [], (0, 0))
        wanted_error(self, TooMany, None, None, table_of, LARGE_ROOM, RULES, [])
        wanted_error(self, TooMany, None, None, table, Level(LARGE_ROOM), RULES)

    def test_many_more(self):
        room = Room(["@.....", ".o..o.", "......", "ab.o.."])
        wanted_error(self, TooMany, None, None, met, room, Rules(2, True, True), [], (0, 0))
        wanted_error(self, TooMany, None, None, table, Level(room), RULES)

    def test_too_many_with_one_of_the_bags(self):
        counts = [len(met_again(DOOR_ROOM, RULES, [], bag)) for bag in RULES.bags()]
        self.assertEqual([False, False, True, True], [count > 3000 for count in counts])
        wanted_error(self, TooMany, None, None, table_of, DOOR_ROOM, RULES, [])
        wanted_error(self, TooMany, None, None, table, Level(DOOR_ROOM), RULES)
        wanted_error(self, TooMany, None, None, met, DOOR_ROOM, RULES, [], (1, 0))

    def test_in_any_room_also_where_it_cannot_be_reached(self):
        for above in (Room(["@1"]), Room(["@#1"]), Room(["@>.<1"])):
            self.assertIsInstance(table(Level(above, [Level(FULL_ROOM)]), RULES), Table)
            wanted_error(self, TooMany, None, None, table, Level(above, [Level(LARGE_ROOM)]), RULES)
        deep = row_of(Room(["@#1"]), Level(LARGE_ROOM), 59)
        wanted_error(self, TooMany, None, None, table, deep, RULES)
        level = Level(Room(["1#@2"]), [Level(LARGE_ROOM), Level(Room(["@"]))])
        wanted_error(self, TooMany, None, None, table, level, RULES)

    def test_the_tables_of_the_children_count(self):
        tables = [[none(RULES)], [same(RULES)]]
        self.assertEqual([False, True], [len(met_again(MOUTH_ROOM, RULES, one, (0, 0))) > 3000 for one in tables])
        self.assertIsInstance(table_of(MOUTH_ROOM, RULES, tables[0]), Table)
        wanted_error(self, TooMany, None, None, table_of, MOUTH_ROOM, RULES, tables[1])
        wanted_error(self, TooMany, None, None, met, MOUTH_ROOM, RULES, tables[1], (0, 0))

    def test_too_many_comes_last(self):
        wanted_error(self, BadBag, "value", None, met, LARGE_ROOM, RULES, [], None)
        wanted_error(self, BadTable, "value", -1, met, LARGE_ROOM, RULES, [None], None)
        wanted_error(self, BadTable, "value", -1, table_of, LARGE_ROOM, RULES, [none(RULES)])
        wanted_error(self, BadRules, "value", None, table, Level(LARGE_ROOM), None)


class IsClosedTest(unittest.TestCase):
    def cases(self):
        chance = random.Random(41)
        for number in range(60):
            rules = ALL_RULES[number % 8]
            room = random_room(chance, number % 3, 8)
            tables = [random_table(chance, rules) for _ in range(room.mouths)]
            bag = chance.choice(rules.bags())
            yield chance, room, rules, tables, bag, met_again(room, rules, tables, bag)

    def test_what_is_met_is_closed(self):
        for chance, room, rules, tables, bag, states in self.cases():
            told = list(told_by(room, tables, states))
            mixed = states + chance.choices(states, k=5)
            chance.shuffle(mixed)
            for outcomes in (told, tuple(reversed(told)), every_outcome(rules), told + told):
                self.assertIs(True, is_closed(room, rules, tables, bag, outcomes, states))
                self.assertIs(True, is_closed(room, rules, tables, bag, outcomes, mixed))

    def test_an_outcome_left_out(self):
        for _, room, rules, tables, bag, states in self.cases():
            told = list(told_by(room, tables, states))
            for outcome in told:
                fewer = [out for out in told if out != outcome]
                self.assertIs(False, is_closed(room, rules, tables, bag, fewer, states))

    def test_a_state_left_out(self):
        for _, room, rules, tables, bag, states in self.cases():
            for at in range(len(states)):
                fewer = states[:at] + states[at + 1:]
                self.assertIs(False, is_closed(room, rules, tables, bag, every_outcome(rules), fewer), states[at])

    def test_one_state_more(self):
        seen = set()
        for _, room, rules, tables, bag, states in self.cases():
            for state in all_states(room, rules)[:300]:
                more = states + [state]
                after = [after for _, after in steps(room, rules, state)] + behind(room, tables, state)
                wanted = all(one in more for one in after)
                seen.add(wanted)
                self.assertIs(wanted, is_closed(room, rules, tables, bag, every_outcome(rules), more))
                told = list(told_by(room, tables, states))
                wanted = wanted and told_by(room, tables, [state]) <= set(told)
                self.assertIs(wanted, is_closed(room, rules, tables, bag, told, more))
        self.assertEqual({True, False}, seen)

    def test_all_states_are_closed(self):
        for _, room, rules, tables, bag, _ in self.cases():
            self.assertIs(True, is_closed(room, rules, tables, bag, every_outcome(rules), all_states(room, rules)))

    def test_things_that_are_no_lists(self):
        states = met(KEY, RULES, [same(RULES)], (0, 0))
        outcomes = every_outcome(RULES)
        self.assertIs(True, is_closed(KEY, RULES, [same(RULES)], (0, 0), outcomes, states))
        for thing in anything() + [tuple(states), {state: True for state in states}, set(states), [states]]:
            self.assertIs(False, is_closed(KEY, RULES, [same(RULES)], (0, 0), outcomes, thing))

    def test_lists_with_things_that_are_no_states(self):
        room = Room(["@a1"])
        states = met(room, RULES, [same(RULES)], (0, 0))
        for thing in anything() + [list(states[0]), (True, (), (1,), (), (1, 0)), (0, (), (1,), (1,), (True, 0))]:
            if thing != (0, (), (), (), (0, 0)):
                for spoilt in (states + [thing], [thing] + states):
                    self.assertIs(False, is_closed(room, RULES, [same(RULES)], (0, 0), every_outcome(RULES), spoilt))

    def test_the_beginning_is_asked_for(self):
        room = Room([".@"])
        self.assertIs(False, is_closed(room, RULES, [], (0, 0), [(0, 0), (1, 0)], []))
        closed = [(0, (), (), (), (1, 0)), (1, (), (), (), (1, 0))]
        self.assertIs(False, is_closed(room, RULES, [], (0, 0), [(0, 0), (1, 0)], closed))
        self.assertIs(True, is_closed(room, RULES, [], (1, 0), [(0, 0), (1, 0)], closed))
        self.assertIs(True, is_closed(room, RULES, [], (1, 0), [(1, 0)], closed))

    def test_a_walker_on_the_star_is_led_nowhere(self):
        room = Room(["@*."])
        states = [(0, (), (), (), (0, 0)), (1, (), (), (), (0, 0))]
        self.assertIs(True, is_closed(room, RULES, [], (0, 0), ["star", (0, 0)], states))
        self.assertIs(False, is_closed(room, RULES, [], (0, 0), [(0, 0)], states))

    def test_a_childs_star_is_an_outcome(self):
        room = Room(["1@"])
        tables = [Table(RULES, {bag: ["star"] for bag in RULES.bags()})]
        states = met(room, RULES, tables, (0, 0))
        self.assertIs(True, is_closed(room, RULES, tables, (0, 0), ["star", (0, 0)], states))
        self.assertIs(False, is_closed(room, RULES, tables, (0, 0), [(0, 0)], states))

    def test_very_large_lists(self):
        states = met(KEY, RULES, [same(RULES)], (0, 0))
        many = states * 20000
        self.assertIs(True, is_closed(KEY, RULES, [same(RULES)], (0, 0), every_outcome(RULES), many))
        self.assertIs(False, is_closed(KEY, RULES, [same(RULES)], (0, 0), every_outcome(RULES), many + [None]))
        self.assertIs(False, is_closed(KEY, RULES, [same(RULES)], (0, 0), every_outcome(RULES), [None] * 1000000))
        self.assertIs(False, is_closed(KEY, RULES, [same(RULES)], (0, 0), every_outcome(RULES), [10 ** 5000] + many))

    def test_the_judge_takes_lists_of_more_states_than_a_search(self):
        states = met_again(LARGE_ROOM, RULES, [], (0, 0))
        outcomes = every_outcome(RULES)
        self.assertIs(True, is_closed(LARGE_ROOM, RULES, [], (0, 0), outcomes, states))
        self.assertIs(False, is_closed(LARGE_ROOM, RULES, [], (0, 0), outcomes, states[:-1]))

    def test_nothing_is_changed(self):
        states = met(KEY, RULES, [same(RULES)], (0, 0))[::-1]
        outcomes = every_outcome(RULES)[::-1]
        tables = [same(RULES)]
        is_closed(KEY, RULES, tables, (0, 0), outcomes, states)
        self.assertEqual(met(KEY, RULES, [same(RULES)], (0, 0))[::-1], states)
        self.assertEqual(every_outcome(RULES)[::-1], outcomes)
        self.assertEqual(1, len(tables))


if __name__ == "__main__":
    unittest.main()
