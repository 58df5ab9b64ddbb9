import random
import unittest

from anything import anything, wanted_error
from naive import ALL_RULES, all_states, board_of, frame_of, naive_step, random_room, state_of
from roomsthrough.errors import BadRoom, BadRules
from roomsthrough.rooms import Room
from roomsthrough.rules import Rules
from roomsthrough.states import begin, is_state, step, steps

LETTERS = "udlrUDLR"
PLAIN = Rules()
STRONG = Rules(1, True)
PULL = Rules(1, False, True)


def after(rows, letters, bag=(0, 0), rules=PLAIN):
    """The state behind some steps from the beginning; None if the last one is not possible."""
    room = Room(rows)
    state = begin(room, rules, bag)
    for letter in letters[:-1]:
        state = step(room, rules, state, letter)
        assert state is not None, (rows, letters)
    return step(room, rules, state, letters[-1])


class WalkingTest(unittest.TestCase):
    def test_the_four_directions(self):
        rows = ["...", ".@.", "..."]
        self.assertEqual((1, (), (), (), (0, 0)), after(rows, "u"))
        self.assertEqual((7, (), (), (), (0, 0)), after(rows, "d"))
        self.assertEqual((3, (), (), (), (0, 0)), after(rows, "l"))
        self.assertEqual((5, (), (), (), (0, 0)), after(rows, "r"))

    def test_borders(self):
        for letter in "udlr":
            self.assertIsNone(after(["@"], letter))
        rows = ["@.", ".."]
        self.assertIsNone(after(rows, "u"))
        self.assertIsNone(after(rows, "l"))
        self.assertIsNone(after(rows, "rr"))
        self.assertIsNone(after(rows, "dd"))
        self.assertIsNone(after(rows, "dl"))
        self.assertEqual(3, after(rows, "rd")[0])

    def test_walls(self):
        for letter in "udlr":
            self.assertIsNone(after(["###", "#@#", "###"], letter))

    def test_onto_entry_mouths_plates_and_floor(self):
        for mark in "1.p":
            self.assertEqual((1, (), (), (), (0, 0)), after(["@" + mark], "r"))
        self.assertEqual((2, (), (), (), (0, 0)), after(["@12"], "rr"))
        self.assertEqual((0, (), (), (), (0, 0)), after(["@."], "rl"))

    def test_from_a_one_way_floor_only_in_its_direction(self):
        for mark, way in (("^", "u"), ("v", "d"), ("<", "l"), (">", "r")):
            room = Room(["@..", "." + mark + ".", "..."])
            state = (4, (), (), (), (0, 0))
            for letter in "udlr":
                self.assertIs(letter == way, step(room, PLAIN, state, letter) is not None, (mark, letter))
            self.assertEqual([way], [letter for letter, _ in steps(room, PLAIN, state)])

    def test_onto_a_one_way_floor_from_everywhere(self):
        for mark in "^v<>":
            room = Room(["@..", "." + mark + ".", "..."])
            for at, letter in ((1, "d"), (7, "u"), (3, "r"), (5, "l")):
                self.assertEqual((4, (), (), (), (0, 0)), step(room, PLAIN, (at, (), (), (), (0, 0)), letter))

    def test_one_way_floors_at_walls_and_borders(self):
        self.assertIsNone(after(["@>"], "rr"))
        self.assertIsNone(after(["@>#"], "rr"))
        self.assertIsNone(after(["@^"], "ru"))

    def test_the_bag_and_what_was_used_stay(self):
        room = Room(["@1."])
        self.assertEqual((2, (), (), (1,), (1, 0)), step(room, PLAIN, (1, (), (), (1,), (1, 0)), "r"))


class KeysAndDoorsTest(unittest.TestCase):
    def test_a_key_is_taken(self):
        self.assertEqual((1, (), (1,), (), (1, 0)), after(["@a"], "r"))
        self.assertEqual((1, (), (1,), (), (0, 1)), after(["@b"], "r"))
        self.assertEqual((1, (), (1,), (), (1, 1)), after(["@a"], "r", (0, 1)))
        self.assertEqual((1, (), (1,), (), (1, 1)), after(["@b"], "r", (1, 0)))

    def test_a_full_bag_cannot_step_on_a_key(self):
        self.assertIsNone(after(["@a"], "r", (1, 0)))
        self.assertIsNone(after(["@b"], "r", (0, 1)))
        self.assertIsNone(after(["@a"], "r", (1, 1)))
        self.assertIsNone(after(["@aa"], "rr"))

    def test_two_of_a_colour_with_cap_two(self):
        self.assertEqual((2, (), (1, 2), (), (2, 0)), after(["@aa"], "rr", (0, 0), Rules(2)))
        self.assertEqual((2, (), (1, 2), (), (1, 2)), after(["@bb"], "rr", (1, 0), Rules(2)))
        self.assertIsNone(after(["@aaa"], "rrr", (0, 0), Rules(2)))
        self.assertIsNone(after(["@bb"], "rr", (0, 1), Rules(2)))

    def test_a_key_becomes_floor(self):
        self.assertEqual((1, (), (1,), (), (1, 0)), after(["@a."], "rrl"))
        self.assertEqual((0, (), (1,), (), (1, 0)), after(["@a"], "rl"))

    def test_gone_is_ascending(self):
        self.assertEqual((0, (), (0, 1), (), (1, 1)), after(["ab@"], "ll"))
        self.assertEqual((2, (), (0, 2), (), (1, 1)), after(["a@b"], "lrr"))

    def test_a_door_uses_up_a_key_of_its_colour(self):
        self.assertEqual((1, (), (1,), (), (0, 0)), after(["@A"], "r", (1, 0)))
        self.assertEqual((1, (), (1,), (), (0, 0)), after(["@B"], "r", (0, 1)))
        self.assertEqual((1, (), (1,), (), (0, 1)), after(["@A"], "r", (1, 1)))
        self.assertEqual((1, (), (1,), (), (1, 0)), after(["@B"], "r", (1, 1)))
        self.assertEqual((1, (), (1,), (), (1, 2)), after(["@A"], "r", (2, 2), Rules(2)))

    def test_a_door_without_its_key(self):
        self.assertIsNone(after(["@A"], "r"))
        self.assertIsNone(after(["@A"], "r", (0, 1)))
        self.assertIsNone(after(["@B"], "r"))
        self.assertIsNone(after(["@B"], "r", (1, 0)))
        self.assertIsNone(after(["@B"], "r", (2, 0), Rules(2)))
        self.assertIsNone(after(["@AA"], "rr", (1, 1)))

    def test_a_door_becomes_floor(self):
        self.assertEqual((1, (), (1,), (), (0, 0)), after(["@A."], "rrl", (1, 0)))
        self.assertEqual((2, (), (1, 2), (), (0, 0)), after(["@aA"], "rr"))


class GatesAndPitsTest(unittest.TestCase):
    def test_gates_without_plates_are_open(self):
        self.assertEqual((1, (), (), (), (0, 0)), after(["@g"], "r"))
        self.assertEqual((2, (), (), (), (0, 0)), after(["@gg"], "rr"))

    def test_a_gate_asks_for_a_crate_on_each_plate(self):
        self.assertIsNone(after(["@gp"], "r"))
        self.assertIsNone(after(["@g", "op"], "r"))
        room = Room(["@g.", "opp"])
        self.assertIsNone(step(room, PLAIN, (0, (4,), (), (), (0, 0)), "r"))
        room = Room(["@goo", ".pp."])
        self.assertIsNone(step(room, PLAIN, (0, (2, 5), (), (), (0, 0)), "r"))
        self.assertIsNone(step(room, PLAIN, (0, (2, 6), (), (), (0, 0)), "r"))
        self.assertEqual((1, (5, 6), (), (), (0, 0)), step(room, PLAIN, (0, (5, 6), (), (), (0, 0)), "r"))

    def test_a_walker_on_a_plate_is_no_crate(self):
        self.assertIsNone(step(Room(["@pg"]), PLAIN, (1, (), (), (), (0, 0)), "r"))

    def test_a_gate_asks_only_who_steps_on_it(self):
        room = Room(["@g.", "op."])
        self.assertEqual((2, (3,), (), (), (0, 0)), step(room, PLAIN, (1, (3,), (), (), (0, 0)), "r"))
        self.assertEqual((0, (3,), (), (), (0, 0)), step(room, PLAIN, (1, (3,), (), (), (0, 0)), "l"))

    def test_the_crates_ahead_of_the_step_count(self):
        room = Room(["gpo@"])
        self.assertIsNone(step(room, PULL, (1, (2,), (), (), (0, 0)), "L"))
        self.assertIsNone(step(room, PULL, (1, (2,), (), (), (0, 0)), "l"))

    def test_pulling_a_crate_off_its_plate_through_a_gate(self):
        room = Room(["po.g.", "@...."])
        self.assertIsNone(step(room, PULL, (2, (1,), (), (), (0, 0)), "R"))
        room = Room(["op.g.", "@...."])
        self.assertEqual((3, (2,), (), (), (0, 0)), step(room, PULL, (2, (1,), (), (), (0, 0)), "R"))
        self.assertEqual((4, (2,), (), (), (0, 0)), step(room, PULL, (3, (2,), (), (), (0, 0)), "r"))
        self.assertIsNone(step(room, PULL, (4, (2,), (), (), (0, 0)), "l"))

    def test_a_pit_cannot_be_stepped_on(self):
        self.assertIsNone(after(["@x"], "r"))
        self.assertIsNone(step(Room(["@xox"]), PLAIN, (0, (), (3,), (), (0, 0)), "r"))

    def test_a_filled_pit_is_floor(self):
        room = Room(["@xo"])
        self.assertEqual((1, (), (1,), (), (0, 0)), step(room, PLAIN, (0, (), (1,), (), (0, 0)), "r"))
        self.assertEqual((2, (), (2,), (), (0, 0)), after(["@ox"], "rr"))


class StarTest(unittest.TestCase):
    def test_onto_the_star(self):
        self.assertEqual((1, (), (), (), (0, 1)), after(["@*"], "r", (0, 1)))

    def test_nothing_is_possible_on_the_star(self):
        room = Room([".o.", "o*.", "@.."])
        state = (4, (1, 3), (), (), (0, 0))
        for rules in ALL_RULES:
            self.assertEqual([], steps(room, rules, state))
            for letter in LETTERS:
                self.assertIsNone(step(room, rules, state, letter))


class PushingTest(unittest.TestCase):
    def pushed_onto(self, mark, gone=()):
        room = Room(["@o" + mark])
        return step(room, PLAIN, (0, (1,), gone, (), (1, 1)), "r")

    def test_onto_floor_and_plates(self):
        for mark in ".p":
            self.assertEqual((1, (2,), (), (), (1, 1)), self.pushed_onto(mark))

    def test_onto_what_a_crate_cannot_lie_on(self):
        for mark in "#1*g^v<>abAB":
            self.assertIsNone(self.pushed_onto(mark), mark)
        self.assertIsNone(step(Room(["@o21"]), PLAIN, (0, (1,), (), (), (1, 1)), "r"))
        self.assertIsNone(step(Room([".o@"]), PLAIN, (0, (1,), (), (), (1, 1)), "r"))
        self.assertIsNone(step(Room(["gp", "@o", "o."]), PLAIN, (2, (1, 3), (), (), (0, 0)), "r"))

    def test_not_onto_an_open_gate(self):
        self.assertIsNone(step(Room(["@og", "p.o"]), PLAIN, (0, (1, 3), (), (), (0, 0)), "r"))

    def test_onto_what_has_become_floor(self):
        for mark in "abAB":
            self.assertEqual((1, (2,), (2,), (), (1, 1)), self.pushed_onto(mark, (2,)))
        room = Room(["@oxo"])
        self.assertEqual((1, (2,), (2,), (), (0, 0)), step(room, PLAIN, (0, (1,), (2,), (), (0, 0)), "r"))

    def test_onto_where_a_crate_stood_at_first(self):
        self.assertEqual((1, (2,), (), (), (0, 0)), step(Room(["@.o"]), PLAIN, (0, (1,), (), (), (0, 0)), "r"))

    def test_over_the_border(self):
        self.assertIsNone(after(["@o"], "r"))
        self.assertIsNone(after(["@o", ".."], "r"))
        self.assertIsNone(after(["..", "o@"], "l"))
        self.assertIsNone(after(["o", "@"], "u"))
        self.assertIsNone(after(["@", "o"], "d"))

    def test_in_all_directions(self):
        room = Room([".....", "..o..", ".o@o.", "....."])
        state = (12, (7, 11, 13), (), (), (0, 0))
        self.assertEqual((7, (2, 11, 13), (), (), (0, 0)), step(room, PLAIN, state, "u"))
        self.assertEqual((11, (7, 10, 13), (), (), (0, 0)), step(room, PLAIN, state, "l"))
        self.assertEqual((13, (7, 11, 14), (), (), (0, 0)), step(room, PLAIN, state, "r"))
        self.assertEqual((1, (2,), (), (), (0, 0)), after(["@", "o", "."], "d"))

    def test_into_a_pit(self):
        self.assertEqual((1, (), (2,), (), (0, 0)), after(["@ox"], "r"))
        self.assertEqual((1, (3,), (2,), (), (0, 0)), after(["@oxo"], "r"))
        self.assertEqual((1, (), (0,), (), (0, 1)), after(["xo@"], "l", (0, 1)))

    def test_a_filled_pit_takes_no_second_crate(self):
        room = Room(["@.oxo."])
        self.assertEqual((2, (3,), (3,), (), (0, 0)), step(room, PLAIN, (1, (2,), (3,), (), (0, 0)), "r"))

    def test_gone_is_ascending_behind_a_pit(self):
        room = Room(["xo@oxa"])
        state = step(room, PLAIN, begin(room, PLAIN, (0, 0)), "r")
        self.assertEqual((3, (1,), (4,), (), (0, 0)), state)
        state = step(room, PLAIN, step(room, PLAIN, state, "l"), "l")
        self.assertEqual((1, (), (0, 4), (), (0, 0)), state)

    def test_from_a_one_way_floor_in_its_direction(self):
        room = Room(["@>o."])
        self.assertEqual((2, (3,), (), (), (0, 0)), step(room, PLAIN, (1, (2,), (), (), (0, 0)), "r"))
        room = Room(["@<o."])
        self.assertIsNone(step(room, PLAIN, (1, (2,), (), (), (0, 0)), "r"))

    def test_two_in_a_row_under_plain_rules(self):
        for rows in (["@oo."], ["@oox"]):
            self.assertIsNone(after(rows, "r"))
            self.assertIsNone(after(rows, "r", (0, 0), PULL))

    def test_two_in_a_row_under_strong_rules(self):
        self.assertEqual((1, (2, 3), (), (), (0, 0)), after(["@oo."], "r", (0, 0), STRONG))
        self.assertEqual((1, (2, 3), (), (), (0, 0)), after(["@oop"], "r", (0, 0), STRONG))
        self.assertEqual((2, (0, 1), (), (), (0, 0)), after([".oo@"], "l", (0, 0), STRONG))
        self.assertEqual((1, (2, 3), (), (), (0, 0)), after(["@", "o", "o", "."], "d", (0, 0), STRONG))
        self.assertEqual((2, (0, 1), (), (), (0, 0)), after([".", "o", "o", "@"], "u", (0, 0), STRONG))

    def test_one_under_strong_rules(self):
        self.assertEqual((1, (2,), (), (), (0, 0)), after(["@o."], "r", (0, 0), STRONG))
        self.assertEqual((1, (2, 4), (), (), (0, 0)), after(["@o.#o"], "r", (0, 0), STRONG))
        self.assertEqual((1, (2, 3), (), (), (0, 0)), after(["@o.o"], "r", (0, 0), STRONG))

    def test_the_second_of_two_falls_into_a_pit(self):
        self.assertEqual((1, (2,), (3,), (), (0, 0)), after(["@oox"], "r", (0, 0), STRONG))
        self.assertEqual((2, (1,), (0,), (), (0, 0)), after(["xoo@"], "l", (0, 0), STRONG))
        self.assertEqual((2, (), (0, 1), (), (0, 0)), step(Room(["xxoo@"]), STRONG, (3, (2,), (0,), (), (0, 0)), "l"))
        room = Room(["xxooo@"])
        self.assertEqual((3, (2,), (0, 1), (), (0, 0)), step(room, STRONG, (4, (2, 3), (0,), (), (0, 0)), "l"))

    def test_two_onto_what_a_crate_cannot_lie_on(self):
        for mark in "#1*g^v<>abAB":
            self.assertIsNone(after(["@oo" + mark], "r", (1, 1), STRONG), mark)
        self.assertIsNone(after(["@oo"], "r", (0, 0), STRONG))
        self.assertIsNone(after(["@oo", "..."], "r", (0, 0), STRONG))

    def test_two_onto_what_has_become_floor(self):
        for mark in "abAB":
            state = (0, (1, 2), (3,), (), (0, 0))
            self.assertEqual((1, (2, 3), (3,), (), (0, 0)), step(Room(["@oo" + mark]), STRONG, state, "r"))

    def test_never_three_in_a_row(self):
        for rows in (["@ooo."], ["@ooox"]):
            self.assertIsNone(after(rows, "r", (0, 0), STRONG))
            self.assertIsNone(after(rows, "r", (0, 0), PLAIN))

    def test_a_crate_that_stands_aside_stays(self):
        self.assertEqual((1, (2, 3, 4), (), (), (0, 0)), after(["@oo.", "o..."], "r", (0, 0), STRONG))
        self.assertEqual((1, (2, 5), (), (), (0, 0)), after(["@o.", "..o"], "r"))


class PullingTest(unittest.TestCase):
    def test_only_pull_rules_have_it(self):
        room = Room(["o.@.."])
        state = (1, (0,), (), (), (0, 0))
        for rules in ALL_RULES:
            self.assertEqual((2, (1,), (), (), (0, 0)) if rules.pull else None, step(room, rules, state, "R"))
            self.assertEqual((2, (0,), (), (), (0, 0)), step(room, rules, state, "r"))

    def test_in_all_directions(self):
        room = Room([".....", "..o..", ".o.o.", "....@"])
        state = (12, (7, 11, 13), (), (), (0, 0))
        self.assertEqual((17, (11, 12, 13), (), (), (0, 0)), step(room, PULL, state, "D"))
        self.assertEqual((17, (7, 11, 13), (), (), (0, 0)), step(room, PULL, state, "d"))
        for letter in "ULR":
            self.assertIsNone(step(room, PULL, state, letter))
        for letter, crate, goal in (("U", 17, 7), ("L", 13, 11), ("R", 11, 13)):
            room = Room([".oo..", ".....", ".....", "@...."])
            state = (12, (crate, 18), (), (), (0, 0))
            self.assertEqual((goal, (12, 18), (), (), (0, 0)), step(room, PULL, state, letter))

    def test_a_crate_has_to_lie_behind_the_walker(self):
        room = Room(["o.@..", "....."])
        self.assertIsNone(step(room, PULL, (2, (0,), (), (), (0, 0)), "R"))
        self.assertIsNone(step(room, PULL, (1, (0,), (), (), (0, 0)), "D"))
        self.assertIsNone(step(room, PULL, (1, (0,), (), (), (0, 0)), "L"))
        self.assertIsNone(step(room, PULL, (1, (6,), (), (), (0, 0)), "R"))
        self.assertIsNone(step(Room([".@", "o."]), PULL, (1, (2,), (), (), (0, 0)), "R"))

    def test_nothing_is_pulled_over_the_border(self):
        room = Room(["@.o", "..."])
        self.assertIsNone(step(room, PULL, (3, (2,), (), (), (0, 0)), "R"))
        self.assertIsNone(step(Room(["o..", "@.."]), PULL, (4, (2,), (), (), (0, 0)), "R"))

    def test_no_crate_on_the_goal(self):
        room = Room(["o.o.@"])
        state = (1, (0, 2), (), (), (0, 0))
        for rules in (PULL, Rules(1, True, True)):
            self.assertIsNone(step(room, rules, state, "R"))
            self.assertEqual((2, (0, 3), (), (), (0, 0)), step(room, rules, state, "r"))

    def test_the_step_itself_has_to_be_possible(self):
        for mark in "#xAB":
            room = Room(["o." + mark + "@"])
            self.assertIsNone(step(room, PULL, (1, (0,), (), (), (0, 0)), "R"), mark)
        self.assertIsNone(step(Room(["o.a@"]), PULL, (1, (0,), (), (), (1, 0)), "R"))
        self.assertIsNone(step(Room(["o.gp@"]), PULL, (1, (0,), (), (), (0, 0)), "R"))
        self.assertIsNone(step(Room(["o.", "@."]), PULL, (1, (0,), (), (), (0, 0)), "R"))

    def test_what_the_step_does_is_done(self):
        self.assertEqual((2, (1,), (2,), (), (1, 0)), step(Room(["o.a@"]), PULL, (1, (0,), (), (), (0, 0)), "R"))
        self.assertEqual((2, (1,), (2,), (), (0, 0)), step(Room(["o.B@"]), PULL, (1, (0,), (), (), (0, 1)), "R"))
        self.assertEqual((2, (1,), (), (), (0, 0)), step(Room(["o.*@"]), PULL, (1, (0,), (), (), (0, 0)), "R"))
        self.assertEqual((2, (1,), (), (), (0, 0)), step(Room(["o.@."]), PULL, (1, (0,), (), (), (0, 0)), "R"))
        self.assertEqual((2, (1,), (), (), (0, 0)), step(Room(["o.1@"]), PULL, (1, (0,), (), (), (0, 0)), "R"))
        self.assertEqual((2, (1,), (), (), (0, 0)), step(Room(["o.<@"]), PULL, (1, (0,), (), (), (0, 0)), "R"))

    def test_where_the_walker_comes_from(self):
        for mark in ".p":
            room = Room(["o" + mark + ".@"])
            self.assertEqual((2, (1,), (), (), (0, 0)), step(room, PULL, (1, (0,), (), (), (0, 0)), "R"), mark)
        for mark in "1g><^v":
            room = Room(["o" + mark + ".@"])
            self.assertIsNone(step(room, PULL, (1, (0,), (), (), (0, 0)), "R"), mark)
        self.assertIsNone(after(["o@."], "R", (0, 0), PULL))
        for mark in "abAB":
            room = Room(["o" + mark + ".@"])
            self.assertEqual((2, (1,), (1,), (), (0, 0)), step(room, PULL, (1, (0,), (1,), (), (0, 0)), "R"), mark)
        room = Room(["ox.o@"])
        self.assertEqual((2, (1,), (1,), (), (0, 0)), step(room, PULL, (1, (0,), (1,), (), (0, 0)), "R"))
        room = Room(["oo..", "@..."])
        self.assertEqual((2, (1, 3), (), (), (0, 0)), step(room, PULL, (1, (0, 3), (), (), (0, 0)), "R"))

    def test_a_pulled_crate_is_put_in_order(self):
        room = Room(["o.@", "o.."])
        self.assertEqual((2, (1, 3), (), (), (0, 0)), step(room, PULL, (1, (0, 3), (), (), (0, 0)), "R"))
        room = Room(["@.o", "o.."])
        self.assertEqual((0, (1, 3), (), (), (0, 0)), step(room, PULL, (1, (2, 3), (), (), (0, 0)), "L"))
        room = Room([".@.", "o..", ".o."])
        self.assertEqual((1, (3, 4), (), (), (0, 0)), step(room, PULL, (4, (3, 7), (), (), (0, 0)), "U"))

    def test_only_one_crate_comes_along(self):
        room = Room(["oo.@"])
        for rules in (PULL, Rules(2, True, True)):
            self.assertEqual((3, (0, 2), (), (), (0, 0)), step(room, rules, (2, (0, 1), (), (), (0, 0)), "R"))


class LettersTest(unittest.TestCase):
    def test_letters_of_any_kind(self):
        room = Room(["...", ".@.", "..."])
        for rules in ALL_RULES:
            for thing in anything() + ["ud", "udlr", "lr", "dl", "U ", " u", "i", "o", "x", b"u", ["u"], ("u",), "UD"]:
                if thing != "u":
                    self.assertIsNone(step(room, rules, begin(room, rules, (0, 0)), thing), thing)

    def test_errors_in_their_order(self):
        room = Room(["@."])
        state = begin(room, PLAIN, (0, 0))
        for thing in anything():
            if not isinstance(thing, Room):
                wanted_error(self, BadRoom, "value", thing, step, thing, None, state, "r")
                wanted_error(self, BadRoom, "value", thing, steps, thing, None, state)
            if not isinstance(thing, Rules):
                wanted_error(self, BadRules, "value", thing, step, room, thing, state, None)
                wanted_error(self, BadRules, "value", thing, steps, room, thing, state)

    def test_the_order_of_steps(self):
        room = Room([".....", ".....", ".....", "@...."])
        state = (12, (), (), (), (0, 0))
        self.assertEqual([("u", 7), ("d", 17), ("l", 11), ("r", 13)], [(k, s[0]) for k, s in steps(room, PULL, state)])
        room = Room([".....", ".....", ".o.o.", "@.o.."])
        state = (12, (11, 13, 17), (), (), (0, 0))
        self.assertEqual(["u", "l", "r", "U"], [letter for letter, _ in steps(room, PULL, state)])
        self.assertEqual(["u", "l", "r"], [letter for letter, _ in steps(room, PLAIN, state)])
        room = Room(["o", ".", ".", "@"])
        self.assertEqual(["d", "D"], [letter for letter, _ in steps(room, PULL, (1, (0,), (), (), (0, 0)))])
        room = Room([".o.", "o.o", "@.."])
        self.assertEqual(["d", "D"], [letter for letter, _ in steps(room, PULL, (4, (1, 3, 5), (), (), (0, 0)))])

    def test_the_list_is_new_each_time(self):
        room = Room(["@."])
        steps(room, PLAIN, begin(room, PLAIN, (0, 0))).clear()
        self.assertEqual([("r", (1, (), (), (), (0, 0)))], steps(room, PLAIN, begin(room, PLAIN, (0, 0))))


class AgainstTheOtherProgramTest(unittest.TestCase):
    def test_all_steps_from_all_states_of_many_rooms(self):
        chance = random.Random(11)
        for number in range(160):
            room = random_room(chance, number % 3, 8)
            self.compare(room, ALL_RULES[number % 8])

    def test_rooms_with_many_crates(self):
        chance = random.Random(12)
        for number in range(60):
            room = random_room(chance, 0, 12, "....ooxpg.")
            self.compare(room, ALL_RULES[number % 8])

    def compare(self, room, rules):
        board = board_of(room)
        for state in all_states(room, rules):
            wanted = []
            for letter in LETTERS:
                frame = naive_step(board, rules, frame_of(room, state), letter)
                behind = None if frame is None else state_of(room, frame)
                self.assertEqual(behind, step(room, rules, state, letter), (room.rows, state, letter))
                if behind is not None:
                    self.assertTrue(is_state(room, rules, behind))
                    wanted.append((letter, behind))
            self.assertEqual(wanted, steps(room, rules, state))


if __name__ == "__main__":
    unittest.main()
