import random
import unittest

from anything import anything, wanted_error
from naive import (
    ALL_RULES, is_position, naive_costs, naive_positions, position_of, random_level,
)
from roomsthrough.costs import costs
from roomsthrough.errors import BadBag, BadLevel, BadOutcome, BadPlay, BadRules, TooMany
from roomsthrough.levels import Level, row_of
from roomsthrough.middle import table
from roomsthrough.plays import is_play, least, outcomes, walk, way
from roomsthrough.rooms import Room
from roomsthrough.rules import Rules
from test_middle import DOOR_ROOM, EXAMPLE, FULL_ROOM, LARGE_ROOM
from test_tables import every_outcome

RULES = Rules()
NOTHING = (0, 0)
LETTERS = "udlrUDLRio"


def plays_to(positions):
    """For each position a play with as few letters as can be."""
    found = {}
    for position, letters in positions.items():
        found.setdefault(position, "")
        for letter, after in letters:
            if is_position(after) and after not in found:
                found[after] = found[position] + letter
    return found


def told_end(after):
    return ("won",) if after == "star" else after


class WalkTest(unittest.TestCase):
    def test_the_example_of_the_document(self):
        self.assertEqual(("won",), walk(EXAMPLE, RULES, NOTHING, "rrirr"))
        wanted = ((2, (), (1,), (1,), None), (0, (), (), (), (1, 0)))
        self.assertEqual(wanted, walk(EXAMPLE, RULES, NOTHING, "rri"))
        self.assertEqual(((2, (), (1,), (1,), (1, 0)),), walk(EXAMPLE, RULES, NOTHING, "rrio"))
        self.assertEqual(((0, (), (), (), NOTHING),), walk(EXAMPLE, RULES, NOTHING, ""))
        self.assertEqual(((1, (), (1,), (), (1, 0)),), walk(EXAMPLE, RULES, NOTHING, "r"))
        self.assertEqual(("out", NOTHING), walk(EXAMPLE, RULES, NOTHING, "o"))
        self.assertEqual(("out", (1, 0)), walk(EXAMPLE, RULES, NOTHING, "rlo"))
        self.assertEqual(("out", NOTHING), walk(EXAMPLE, RULES, NOTHING, "rrirlollo"))

    def test_the_star_of_the_own_room(self):
        level = Level(Room(["*@1"]), [Level(Room(["@*"]))])
        self.assertEqual(("won",), walk(level, RULES, (1, 1), "l"))
        self.assertEqual(("won",), walk(level, RULES, (1, 1), "rir"))
        for play in ("ll", "lr", "lo", "li", "rirl", "riro", "o ", "oo", "oi", "or"):
            wanted_error(self, BadPlay, "at", len(play) - 1, walk, level, RULES, (1, 1), play)

    def test_each_letter_at_each_position_of_small_levels(self):
        chance = random.Random(81)
        walked = 0
        for number in range(96):
            rules = ALL_RULES[number % 8]
            level = random_level(chance, 1 + number % 4, 8)
            bag = chance.choice(rules.bags())
            positions = naive_positions(level, rules, bag, 400)
            if positions is None:
                continue
            plays = plays_to(positions)
            for position, letters in positions.items():
                play = plays[position]
                self.assertEqual(position_of(level, position), walk(level, rules, bag, play))
                possible = dict(letters)
                for letter in LETTERS:
                    walked += 1
                    if letter not in possible:
                        self.assertFalse(is_play(level, rules, bag, play + letter))
                        wanted_error(self, BadPlay, "at", len(play), walk, level, rules, bag, play + letter + "u")
                        continue
                    after = possible[letter]
                    wanted = position_of(level, after) if is_position(after) else told_end(after)
                    self.assertEqual(wanted, walk(level, rules, bag, play + letter))
                    self.assertTrue(is_play(level, rules, bag, play + letter))
        self.assertGreater(walked, 10000)

    def test_the_bag_is_that_of_the_last_state_alone(self):
        level = row_of(Room(["@1"]), Level(Room(["@"])), 3)
        place = walk(level, RULES, (1, 0), "riririo")
        self.assertEqual([None, None, (1, 0)], [state[4] for state in place])
        self.assertEqual(((1, (), (), (1,), (1, 0)),), walk(level, RULES, (1, 0), "ririololo"[:-2]))

    def test_a_mouth_is_gone_through_once(self):
        level = Level(Room(["1@2"]), [Level(Room(["@"])), Level(Room(["@a"]))])
        self.assertEqual(((0, (), (), (1,), NOTHING),), walk(level, RULES, NOTHING, "lio"))
        wanted_error(self, BadPlay, "at", 3, walk, level, RULES, NOTHING, "lioi")
        self.assertEqual(((2, (), (), (1, 2), (1, 0)),), walk(level, RULES, NOTHING, "liorrirlo"))
        wanted_error(self, BadPlay, "at", 5, walk, level, RULES, NOTHING, "liorli")
        self.assertEqual(((0, (), (), (1,), None), (0, (), (), (), NOTHING)), walk(level, RULES, NOTHING, "li"))

    def test_in_at_no_mouth_and_out_away_from_the_entry(self):
        wanted_error(self, BadPlay, "at", 0, walk, EXAMPLE, RULES, NOTHING, "i")
        wanted_error(self, BadPlay, "at", 1, walk, EXAMPLE, RULES, NOTHING, "ro")
        wanted_error(self, BadPlay, "at", 2, walk, EXAMPLE, RULES, NOTHING, "rro")
        wanted_error(self, BadPlay, "at", 4, walk, EXAMPLE, RULES, NOTHING, "rriro")

    def test_pulling(self):
        level = Level(Room(["o.p.g*", "#@####"]))
        self.assertEqual(("won",), walk(level, Rules(1, False, True), NOTHING, "uRRrr"))
        wanted_error(self, BadPlay, "at", 1, walk, level, RULES, NOTHING, "uRRrr")

    def test_letters_that_are_none(self):
        for letter in ("I", "O", " ", "x", "\n", "\u00fc", "0", "ud", "\u0130"):
            wanted_error(self, BadPlay, "at", 2, walk, Level(Room(["@."])), RULES, NOTHING, "rl" + letter)
            self.assertFalse(is_play(Level(Room(["@."])), RULES, NOTHING, letter))

    def test_long_plays(self):
        level = Level(Room(["@.*"]))
        play = "rl" * 50000
        self.assertEqual(((0, (), (), (), NOTHING),), walk(level, RULES, NOTHING, play))
        self.assertTrue(is_play(level, RULES, NOTHING, play + "o"))
        wanted_error(self, BadPlay, "at", 100001, walk, level, RULES, NOTHING, play + "oo")
        deep = row_of(Room(["@1"]), Level(Room(["@*"])), 59)
        self.assertEqual(("won",), walk(deep, RULES, NOTHING, "ri" * 59 + "r"))
        self.assertEqual(60, len(walk(deep, RULES, NOTHING, "ri" * 59)))
        self.assertEqual(("out", NOTHING), walk(deep, RULES, NOTHING, "ri" * 59 + "o" + "lo" * 59))

    def test_rooms_too_large_to_search_are_walked(self):
        level = Level(Room(["@1#"]), [Level(LARGE_ROOM)])
        self.assertEqual(("out", NOTHING), walk(level, RULES, NOTHING, "riolo"))
        self.assertTrue(is_play(level, RULES, NOTHING, "ri"))
        self.assertFalse(is_play(level, RULES, NOTHING, "rii"))


class IsPlayTest(unittest.TestCase):
    def test_things_of_any_kind(self):
        for thing in anything():
            self.assertIs(isinstance(thing, str) and thing == "", is_play(EXAMPLE, RULES, NOTHING, thing))
        for play in ("", "r", "rri", "rrirr", "o", "rlo"):
            self.assertIs(True, is_play(EXAMPLE, RULES, NOTHING, play))
            self.assertIs(False, is_play(EXAMPLE, RULES, NOTHING, list(play)))
            self.assertIs(False, is_play(EXAMPLE, RULES, NOTHING, play.encode()))
        self.assertIs(False, is_play(EXAMPLE, RULES, NOTHING, "R" * 10 ** 6))
        self.assertIs(False, is_play(EXAMPLE, RULES, NOTHING, "rrirru"))


class LeastTest(unittest.TestCase):
    def test_the_example_of_the_document(self):
        self.assertEqual(5, least(EXAMPLE, RULES, NOTHING, "star"))
        self.assertEqual("rrirr", way(EXAMPLE, RULES, NOTHING, "star"))
        self.assertEqual(3, least(EXAMPLE, RULES, NOTHING, (1, 0)))
        self.assertEqual("rlo", way(EXAMPLE, RULES, NOTHING, (1, 0)))
        self.assertEqual("o", way(EXAMPLE, RULES, (1, 1), (1, 1)))
        self.assertIsNone(least(EXAMPLE, RULES, (1, 0), "star"))
        self.assertIsNone(way(EXAMPLE, RULES, (1, 0), "star"))
        self.assertEqual([(0, 0), (1, 0), "star"], outcomes(EXAMPLE, RULES, NOTHING))
        self.assertEqual([(1, 0)], outcomes(EXAMPLE, RULES, (1, 0)))

    def test_against_all_plays_of_small_levels(self):
        chance = random.Random(82)
        compared = 0
        for number in range(120):
            rules = ALL_RULES[number % 8]
            level = random_level(chance, 1 + number % 5, 8)
            bag = chance.choice(rules.bags())
            wanted = naive_costs(level, rules, bag, 8000)
            if wanted is None:
                continue
            compared += 1
            self.assertEqual([o for o in every_outcome(rules) if o in wanted], outcomes(level, rules, bag))
            for outcome in every_outcome(rules):
                self.check_least(level, rules, bag, outcome, wanted.get(outcome))
        self.assertGreater(compared, 90)

    def check_least(self, level, rules, bag, outcome, cost):
        self.assertEqual(cost, least(level, rules, bag, outcome))
        play = way(level, rules, bag, outcome)
        if cost is None:
            self.assertIsNone(play)
        else:
            self.assertIsInstance(play, str)
            self.assertEqual(cost, len(play))
            self.assertEqual(told_end(outcome if outcome == "star" else ("out", outcome)),
                             walk(level, rules, bag, play))

    def test_large_levels_against_costs(self):
        chance = random.Random(83)
        for number in range(10):
            rules = ALL_RULES[number % 8]
            level = random_level(chance, 8 + 4 * (number % 3), 10)
            told = costs(level, rules)
            bag = chance.choice(rules.bags())
            self.assertEqual(table(level, rules).outcomes(bag), outcomes(level, rules, bag))
            for outcome in every_outcome(rules):
                self.check_least(level, rules, bag, outcome, told.get((bag, outcome)))

    def test_rows_with_more_positions_than_could_be_searched(self):
        room = Room(["@.o..1", "..x..."])
        for number in (1, 20, 59):
            level = row_of(room, Level(Room(["@..*"])), number)
            self.assertEqual(8 * number + 3, least(level, RULES, NOTHING, "star"))
            self.check_least(level, RULES, NOTHING, "star", 8 * number + 3)
            self.check_least(level, RULES, (1, 0), (1, 0), 1)
        level = row_of(Room(["@.a1", "..A."]), Level(Room(["@A*"])), 40)
        told = costs(level, RULES)
        self.check_least(level, RULES, NOTHING, "star", told.get((NOTHING, "star")))
        self.check_least(level, RULES, (1, 0), "star", told.get(((1, 0), "star")))

    def test_the_way_through_two_children(self):
        level = Level(Room(["1@.2"]), [Level(Room(["@a"])), Level(Room(["@A.*"]))])
        self.check_least(level, RULES, NOTHING, "star", 12)
        level = Level(Room(["1@2"]), [Level(Room(["@.a"])), Level(Room(["@b"]))])
        self.check_least(level, RULES, NOTHING, (1, 1), 15)

    def test_what_is_returned_is_new(self):
        outcomes(EXAMPLE, RULES, NOTHING).clear()
        self.assertEqual(3, len(outcomes(EXAMPLE, RULES, NOTHING)))
        self.assertIsInstance(outcomes(EXAMPLE, RULES, NOTHING), list)
        self.assertEqual(way(EXAMPLE, RULES, NOTHING, "star"), way(EXAMPLE, RULES, NOTHING, "star"))


class ErrorTest(unittest.TestCase):
    def test_in_their_order(self):
        large = Level(LARGE_ROOM)
        for thing in anything():
            for function in (walk, is_play, least, way):
                if not isinstance(thing, Level):
                    wanted_error(self, BadLevel, "value", thing, function, thing, None, None, None)
                if not isinstance(thing, Rules):
                    wanted_error(self, BadRules, "value", thing, function, large, thing, None, None)
                if thing not in RULES.bags() or not isinstance(thing[0], int) or thing[0] is True:
                    wanted_error(self, BadBag, "value", thing, function, large, RULES, thing, None)
            if not isinstance(thing, Level):
                wanted_error(self, BadLevel, "value", thing, outcomes, thing, None, None)
            if not isinstance(thing, Rules):
                wanted_error(self, BadRules, "value", thing, outcomes, large, thing, None)

    def test_bags(self):
        for bag in ([0, 0], (0, True), (False, 0), (2, 0), (0, -1), (0,), None, "star"):
            for function in (walk, is_play, least, way):
                wanted_error(self, BadBag, "value", bag, function, Level(LARGE_ROOM), RULES, bag, None)
            wanted_error(self, BadBag, "value", bag, outcomes, Level(LARGE_ROOM), RULES, bag)
        self.assertEqual(1, least(EXAMPLE, Rules(2), (2, 0), (2, 0)))

    def test_plays_that_are_no_strings(self):
        for thing in anything():
            if not isinstance(thing, str):
                wanted_error(self, BadPlay, "at", -1, walk, Level(LARGE_ROOM), RULES, NOTHING, thing)

    def test_outcomes(self):
        for thing in anything():
            if not isinstance(thing, (str, tuple)) or thing not in every_outcome(RULES) or thing == (True, False):
                for function in (least, way):
                    wanted_error(self, BadOutcome, "value", thing, function, Level(LARGE_ROOM), RULES, NOTHING, thing)
        for function in (least, way):
            wanted_error(self, BadOutcome, "value", (2, 0), function, EXAMPLE, RULES, NOTHING, (2, 0))
            wanted_error(self, BadOutcome, "value", (True, 0), function, EXAMPLE, RULES, NOTHING, (True, 0))

    def test_too_many(self):
        self.assertEqual(1, least(Level(FULL_ROOM), RULES, NOTHING, NOTHING))
        self.assertEqual("o", way(Level(FULL_ROOM), RULES, NOTHING, NOTHING))
        for level in (Level(LARGE_ROOM), Level(DOOR_ROOM), Level(Room(["@#1"]), [Level(LARGE_ROOM)])):
            wanted_error(self, TooMany, None, None, least, level, RULES, NOTHING, NOTHING)
            wanted_error(self, TooMany, None, None, way, level, RULES, NOTHING, "star")
            wanted_error(self, TooMany, None, None, outcomes, level, RULES, NOTHING)


if __name__ == "__main__":
    unittest.main()
