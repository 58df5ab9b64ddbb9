import random
import unittest

from anything import anything, wanted_error
from naive import ALL_RULES, all_states, random_room
from roomsthrough.errors import BadBag, BadRoom, BadRules
from roomsthrough.rooms import Room
from roomsthrough.rules import Rules
from roomsthrough.states import begin, is_state

ROOM = Room(["#o.ax", "@1A2p", "^g*ox"])
RULES = Rules(2)
GOOD = (2, (1, 13), (3,), (1, 2), (1, 2))


class BeginTest(unittest.TestCase):
    def test_the_beginning(self):
        self.assertEqual((5, (1, 13), (), (), (0, 0)), begin(ROOM, RULES, (0, 0)))
        self.assertEqual((5, (1, 13), (), (), (2, 1)), begin(ROOM, RULES, (2, 1)))
        self.assertEqual((0, (), (), (), (1, 1)), begin(Room(["@"]), Rules(), (1, 1)))
        self.assertEqual((3, (0, 1, 2), (), (), (0, 1)), begin(Room(["ooo@"]), Rules(), (0, 1)))

    def test_errors_in_their_order(self):
        for thing in anything():
            if not isinstance(thing, Room):
                wanted_error(self, BadRoom, "value", thing, begin, thing, None, None)
            if not isinstance(thing, Rules):
                wanted_error(self, BadRules, "value", thing, begin, ROOM, thing, None)

    def test_bags_of_the_rules_alone(self):
        for thing in anything() + [(1, 0), (1, 1), (2, 2), (0, 2), (2, 3), (3, 2), (0, -1), (1, False), (True, 1)]:
            for rules in (Rules(), Rules(2)):
                if thing in rules.bags() and True not in [part is True or part is False for part in thing]:
                    self.assertEqual(thing, begin(ROOM, rules, thing)[4])
                else:
                    wanted_error(self, BadBag, "value", thing, begin, ROOM, rules, thing)


class IsStateTest(unittest.TestCase):
    def right(self, room, rules, *states):
        for state in states:
            self.assertIs(True, is_state(room, rules, state), state)

    def wrong(self, room, rules, *things):
        for thing in things:
            self.assertIs(False, is_state(room, rules, thing), thing)

    def with_part(self, at, *things):
        return [GOOD[:at] + (thing,) + GOOD[at + 1:] for thing in things]

    def test_a_state(self):
        self.right(ROOM, RULES, GOOD, begin(ROOM, RULES, (0, 0)))

    def test_errors_for_the_other_arguments_alone(self):
        for thing in anything():
            if not isinstance(thing, Room):
                wanted_error(self, BadRoom, "value", thing, is_state, thing, None, GOOD)
            if not isinstance(thing, Rules):
                wanted_error(self, BadRules, "value", thing, is_state, ROOM, thing, None)
            self.assertIsInstance(is_state(ROOM, RULES, thing), bool)
            self.assertIs(False, is_state(ROOM, RULES, thing))

    def test_five_parts_in_a_tuple(self):
        self.wrong(ROOM, RULES, GOOD[:4], GOOD + (0,), list(GOOD), (GOOD,), (), GOOD + GOOD)
        self.wrong(ROOM, RULES, tuple([0] * 1000000))

    def test_each_part_of_any_kind(self):
        for at in range(5):
            for thing in anything():
                is_right = at == 0 and thing in (2, 3, 5) and thing is not True
                is_right = is_right or at in (2, 3) and thing == ()
                is_right = is_right or at == 4 and thing in ((0, 0), (0, 1)) and isinstance(thing, tuple)
                self.assertIs(is_right, is_state(ROOM, RULES, self.with_part(at, thing)[0]), (at, thing))

    def test_where_the_walker_can_be(self):
        self.right(ROOM, RULES, *self.with_part(0, 2, 3, 5, 6, 8, 9, 10, 11, 12))
        self.wrong(ROOM, RULES, *self.with_part(0, 0, 1, 4, 7, 13, 14, 15, -1, True, False, None, "2", (2,)))

    def test_a_walker_on_what_has_become_floor(self):
        self.wrong(ROOM, RULES, (3, (1, 13), (), (), (0, 0)), (7, (1, 13), (3,), (), (0, 0)))
        self.right(ROOM, RULES, (3, (1, 13), (3,), (), (0, 0)), (7, (1, 13), (3, 7), (), (0, 0)))
        self.wrong(ROOM, RULES, (4, (1,), (14,), (), (0, 0)))
        self.right(ROOM, RULES, (4, (1,), (4,), (), (0, 0)))

    def test_where_crates_can_lie(self):
        for cell in range(15):
            state = (8, (min(cell, 13), max(cell, 13)), (), (), (0, 0))
            self.assertIs(cell in (1, 2, 9), is_state(ROOM, RULES, state), cell)

    def test_crates_on_what_has_become_floor(self):
        for crates, cell, another in (((3, 9), 3, 7), ((7, 9), 7, 3), ((4,), 4, 14)):
            self.right(ROOM, RULES, (2, crates, (cell,), (), (0, 0)))
            self.wrong(ROOM, RULES, (2, crates, (another,), (), (0, 0)))

    def test_how_many_crates(self):
        self.wrong(ROOM, RULES, *self.with_part(1, (), (1,), (1, 9, 13)))
        for crates, gone in (((1, 13), (4,)), ((), (4,)), ((1,), (4, 14))):
            self.wrong(ROOM, RULES, (2, crates, gone, (), (0, 0)))
        self.right(ROOM, RULES, (2, (1,), (4,), (), (0, 0)), (2, (), (4, 14), (), (0, 0)))
        self.wrong(Room(["@xx"]), Rules(), (0, (), (1,), (), (0, 0)), (0, (), (1, 2), (), (0, 0)))
        self.wrong(Room(["@xxo"]), Rules(), (0, (), (1, 2), (), (0, 0)), (0, (3,), (1,), (), (0, 0)))

    def test_form_of_crates(self):
        things = [(13, 1), (1, 1), [1, 13], (True, 13), (1, 13, 13), (1, (13,)), {1: 1}]
        self.wrong(ROOM, RULES, *self.with_part(1, *things))
        for thing in ((True,), (-1,), (2,), [1]):
            self.wrong(Room(["@o"]), Rules(), (0, thing, (), (), (0, 0)))

    def test_gone_is_keys_doors_and_pits(self):
        for cell in range(-1, 17):
            crates = (1,) if cell in (4, 14) else (1, 13)
            self.assertIs(cell in (3, 4, 7, 14), is_state(ROOM, RULES, (2, crates, (cell,), (), (0, 0))), cell)

    def test_form_of_gone(self):
        self.right(ROOM, RULES, *self.with_part(2, (), (3, 7)))
        self.wrong(ROOM, RULES, *self.with_part(2, (7, 3), (3, 3), [3], (3.5,), ("3",), None))
        self.wrong(Room(["@a"]), Rules(), (0, (), (True,), (), (0, 0)))

    def test_used_is_mouths_of_the_room(self):
        self.right(ROOM, RULES, *self.with_part(3, (), (1,), (2,), (1, 2)))
        things = [(0,), (3,), (2, 1), (1, 1), [1], (True,), (True, 2), (1, 2, 3), "1", ("1",)]
        self.wrong(ROOM, RULES, *self.with_part(3, *things))
        self.right(Room(["@1"]), Rules(), (0, (), (), (1,), (0, 0)))
        self.wrong(Room(["@1"]), Rules(), (0, (), (), (2,), (0, 0)))
        self.wrong(Room(["@"]), Rules(), (0, (), (), (1,), (0, 0)))

    def test_the_bag_is_one_of_the_rules(self):
        self.right(ROOM, RULES, *self.with_part(4, (2, 2), (0, 0)))
        things = [None, (3, 0), (0, 3), (-1, 0), [0, 0], (True, 0), (0, False), (0,), (0, 0, 0)]
        self.wrong(ROOM, RULES, *self.with_part(4, *things))
        self.wrong(ROOM, Rules(), GOOD)
        self.right(ROOM, Rules(), GOOD[:4] + ((1, 1),))

    def test_the_walker_may_be_on_the_star_on_gates_and_where_nobody_comes(self):
        room = Room(["@#*", "##g"])
        self.right(room, Rules(), (2, (), (), (), (1, 1)), (5, (), (), (), (0, 0)))
        self.wrong(room, Rules(), (1, (), (), (), (0, 0)))

    def test_all_that_are_put_together_are_states_and_their_neighbours_are_not(self):
        chance = random.Random(5)
        for number in range(40):
            room = random_room(chance, number % 3, 6)
            rules = ALL_RULES[number % 8]
            states = {state: True for state in all_states(room, rules)}
            cells = range(-1, len("".join(room.rows)) + 1)
            for state in list(states):
                self.right(room, rules, state)
                for cell in cells:
                    moved = (cell,) + state[1:]
                    self.assertIs(moved in states, is_state(room, rules, moved))
                    for part in (1, 2):
                        more = state[:part] + (tuple(sorted([*state[part], cell])),) + state[part + 1:]
                        self.assertIs(more in states, is_state(room, rules, more))
                        less = state[:part] + (tuple([c for c in state[part] if c != cell]),) + state[part + 1:]
                        self.assertIs(less in states, is_state(room, rules, less))


if __name__ == "__main__":
    unittest.main()
