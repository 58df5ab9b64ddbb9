import random
import unittest

from anything import anything, wanted_error
from naive import (
    ALL_RULES, is_position, naive_frail, naive_options, naive_positions, random_level,
)
from roomsthrough.errors import BadBag, BadLevel, BadPlay, BadRules, TooMany
from roomsthrough.frailty import frail, is_safe, is_spoiler, options, spoiler
from roomsthrough.levels import Level, row_of
from roomsthrough.plays import is_play, walk
from roomsthrough.rooms import Room
from roomsthrough.rules import Rules
from test_middle import DOOR_ROOM, EXAMPLE, FULL_ROOM, LARGE_ROOM
from test_plays import plays_to
from test_tables import every_outcome

RULES = Rules()
NOTHING = (0, 0)
SAFE = Level(Room(["@.*"]))
MARKS = "....oxpgabAB^v<>#*"
STARS = "...*oabA^v<>"
STUCK = Level(Room(["@v", "#."]))


class ByHandTest(unittest.TestCase):
    def test_the_example_of_the_document(self):
        self.assertEqual([((0, 0),), ((1, 0),)], frail(EXAMPLE, RULES)[NOTHING])
        self.assertEqual("rrio", spoiler(EXAMPLE, RULES, NOTHING))
        self.assertEqual([(0, 0), (1, 0), "star"], options(EXAMPLE, RULES, NOTHING, ""))
        self.assertEqual([(0, 0), (1, 0), "star"], options(EXAMPLE, RULES, NOTHING, "r"))
        self.assertEqual([(0, 0), (1, 0), "star"], options(EXAMPLE, RULES, NOTHING, "rri"))
        self.assertEqual([(1, 0)], options(EXAMPLE, RULES, NOTHING, "rrio"))
        self.assertEqual([(0, 0), "star"], options(EXAMPLE, RULES, NOTHING, "rrir"))
        self.assertIs(False, is_safe(EXAMPLE, RULES, NOTHING))
        self.assertIs(True, is_spoiler(EXAMPLE, RULES, NOTHING, "rrio"))
        self.assertIs(True, is_spoiler(EXAMPLE, RULES, NOTHING, "rriol"))
        self.assertIs(False, is_spoiler(EXAMPLE, RULES, NOTHING, "rri"))
        self.assertIs(False, is_spoiler(EXAMPLE, RULES, NOTHING, "rriollo"))
        self.assertIs(False, is_spoiler(EXAMPLE, RULES, NOTHING, "o"))

    def test_safe_levels(self):
        for bag in RULES.bags():
            self.assertIs(True, is_safe(SAFE, RULES, bag))
            self.assertIsNone(spoiler(SAFE, RULES, bag))
            self.assertEqual([(bag, "star")], frail(SAFE, RULES)[bag])
        self.assertIs(False, is_safe(Level(Room(["@"])), RULES, NOTHING))
        self.assertEqual("", spoiler(Level(Room(["@"])), RULES, NOTHING))

    def test_where_nothing_can_be_had(self):
        self.assertEqual({bag: [()] for bag in RULES.bags()}, frail(STUCK, RULES))
        self.assertEqual([], options(STUCK, RULES, NOTHING, "rd"))
        self.assertEqual([], options(STUCK, RULES, NOTHING, "r"))
        self.assertEqual([NOTHING], options(STUCK, RULES, NOTHING, ""))
        level = Level(Room(["*@1"]), [STUCK])
        self.assertEqual({bag: [()] for bag in RULES.bags()}, frail(level, RULES))
        self.assertEqual([(0, 0), "star"], options(level, RULES, NOTHING, "ri"))
        self.assertEqual([], options(level, RULES, NOTHING, "rir"))
        self.assertEqual("rir", spoiler(level, RULES, NOTHING))

    def test_a_star_is_no_option_of_its_own(self):
        """Behind the star a play has ended, so that ("star",) is none of the least options here."""
        self.assertEqual([(NOTHING, "star")], frail(Level(Room(["@*"])), RULES)[NOTHING])
        self.assertEqual([("star",)], frail(Level(Room(["@>*"])), RULES)[NOTHING])

    def test_the_order_of_the_least_options(self):
        self.assertEqual([((1, 1), "star")], frail(Level(Room([">a@b", "..*."])), RULES)[(0, 1)])
        level = Level(Room(["<1@2>"]), [Level(Room(["*@"])), Level(Room(["@a"]))])
        self.assertEqual([()], frail(level, RULES)[NOTHING])
        level = Level(Room(["1@2"]), [Level(Room(["@>.*"])), Level(Room(["a@b"]))])
        wanted = [((0, 0),), ((0, 1),), ((1, 0),), ((1, 1),), ("star",)]
        self.assertEqual(wanted, frail(level, RULES)[NOTHING])
        level = Level(Room(["1@B*"]), [Level(Room(["@b"]))])
        self.assertEqual([((0, 0), "star"), ((0, 1), "star")], frail(level, RULES)[(0, 1)])

    def test_a_childs_outcomes_spoil_further_out(self):
        """The child uses up the key, which spoils nothing in the child itself, but the door behind it."""
        child = Level(Room(["@A.*"]))
        self.assertTrue(is_safe(child, RULES, (1, 0)))
        level = Level(Room(["1@A*"]), [Level(Room(["@A"]))])
        self.assertEqual("lir", spoiler(level, RULES, (1, 0)))
        self.assertEqual([(0, 0)], options(level, RULES, (1, 0), "lir"))
        self.assertEqual([(0, 0), (1, 0), "star"], options(level, RULES, (1, 0), "li"))
        level = Level(Room(["1@A*"]), [Level(Room(["1@"]), [Level(Room(["@A"]))])])
        self.assertEqual("lilir", spoiler(level, RULES, (1, 0)))
        level = Level(Room(["1@2"]), [STUCK, SAFE])
        self.assertEqual(3, len(spoiler(level, RULES, NOTHING)))

    def test_spoilt_two_rooms_deep(self):
        level = Level(Room(["*@1"]), [Level(Room(["@1"]), [STUCK])])
        self.assertEqual("ririr", spoiler(level, RULES, NOTHING))
        self.assertTrue(is_spoiler(level, RULES, NOTHING, "ririr"))
        self.assertFalse(is_spoiler(level, RULES, NOTHING, "riri"))


class SearchTest(unittest.TestCase):
    def test_small_levels_against_all_their_plays(self):
        chance = random.Random(101)
        compared = spoilt_inside = 0
        for number in range(70):
            rules = ALL_RULES[number % 8]
            level = self.drawn_level(chance, number)
            found = frail(level, rules)
            self.assertEqual(rules.bags(), list(found))
            for bag in rules.bags():
                positions = naive_positions(level, rules, bag, 500)
                if positions is None:
                    continue
                compared += 1
                told = naive_options(positions)
                self.assertEqual(naive_frail(rules, told.values()), found[bag])
                spoilt_inside += self.check_spoiler(level, rules, bag, plays_to(positions), told)
        self.assertGreater(compared, 280)
        self.assertGreater(spoilt_inside, 20)

    def drawn_level(self, chance, number):
        """A level, in most of which the star can be lost within a child."""
        if number % 3 == 0:
            return random_level(chance, 1 + number % 4, 8, MARKS)
        child = random_level(chance, 1 + number % 2, 8, "...oabABB^v<>")
        return Level(Room(chance.choice([["*@1"], ["1@A*"], ["*B@1"], ["1@.", "A.B", "#*#"]])), [child])

    def check_spoiler(self, level, rules, bag, plays, told):
        """Check the spoiler, and tell whether it is within a child."""
        spoilt = [len(plays[position]) for position in told if "star" not in told[position]]
        found = spoiler(level, rules, bag)
        self.assertIs(not spoilt, is_safe(level, rules, bag))
        if not spoilt:
            self.assertIsNone(found)
            return False
        self.assertIsInstance(found, str)
        self.assertEqual(min(spoilt), len(found))
        self.assertIs(True, is_spoiler(level, rules, bag, found))
        for length in range(len(found)):
            self.assertIs(False, is_spoiler(level, rules, bag, found[:length]))
        return len(walk(level, rules, bag, found)) > 1

    def test_the_nearest_of_several_traps(self):
        """A trap in the room itself, one in a child or one two rooms deep: whichever takes the fewest letters."""
        seen = set()
        for left, right, deep in [(m, t, j) for m in (1, 2, 3) for t in (1, 2, 3, 4) for j in (1, 2, 3, 4) if m + t < 6]:
            room = Room(["1" + "." * (left - 1) + "@" + "." * (right - 1) + "v", "#" * left + "*" + "#" * (right - 1) + "."])
            trap = Level(Room(["@" + "." * (deep - 1) + "v", "#" * deep + "."]))
            for child in (trap, Level(Room(["*@1"]), [trap]), Level(Room(["1@v", "##."]), [trap])):
                level = Level(room, [child])
                positions = naive_positions(level, RULES, NOTHING)
                told = naive_options(positions)
                seen.add(self.check_spoiler(level, RULES, NOTHING, plays_to(positions), told))
        self.assertEqual({True, False}, seen)

    def test_a_trap_in_the_room_or_some_rooms_deeper(self):
        rooms = {
            4: ["1@...^", "#*####"], 5: ["1@....", "#*###>"], 6: ["1@....", "#*###.", "#####>"],
            7: ["1@....", "#*###.", "#####.", "#####>"],
        }
        for here, rows in rooms.items():
            for deep, long in [(a, b) for a in (1, 2, 3) for b in (1, 2, 3)]:
                inner = Level(Room(["@" + "." * (long - 1) + ">"]))
                for _ in range(deep - 1):
                    inner = Level(Room(["*@1"]), [inner])
                found = spoiler(Level(Room(rows), [inner]), RULES, NOTHING)
                self.assertEqual(min(here, 2 * deep + long), len(found))

    def test_the_nearer_of_two_mouths(self):
        for left, right, one, other in [(a, b, c, d) for a in (1, 2) for b in (1, 2, 3) for c in (1, 2, 3) for d in (1, 3)]:
            room = Room(["1" + "." * (left - 1) + "@" + "." * (right - 1) + "2", "#" * left + "*" + "#" * right])
            traps = [Level(Room(["@" + "." * (deep - 1) + "v", "#" * deep + "."])) for deep in (one, other)]
            level = Level(room, traps)
            self.assertEqual(min(left + one, right + other) + 1, len(spoiler(level, RULES, NOTHING)))

    def test_options_and_judged_plays(self):
        chance = random.Random(102)
        for number in range(48):
            rules = ALL_RULES[number % 8]
            level = random_level(chance, 1 + number % 4, 8, STARS)
            bag = chance.choice(rules.bags())
            positions = naive_positions(level, rules, bag, 500)
            if positions is None:
                continue
            told, plays = naive_options(positions), plays_to(positions)
            for position in chance.sample(list(plays), min(12, len(plays))):
                play = plays[position]
                wanted = [o for o in every_outcome(rules) if o in told[position]]
                self.assertEqual(wanted, options(level, rules, bag, play))
                self.assertIs("star" not in wanted, is_spoiler(level, rules, bag, play))
                for letter, after in positions[position]:
                    if not is_position(after):
                        wanted_error(self, BadPlay, "at", len(play) + 1, options, level, rules, bag, play + letter)
                        self.assertIs(False, is_spoiler(level, rules, bag, play + letter))

    def test_spoilt_plays_stay_spoilt(self):
        chance = random.Random(103)
        gone_on = 0
        for number in range(60):
            rules = ALL_RULES[number % 8]
            level = random_level(chance, 1 + number % 4, 9)
            bag = chance.choice(rules.bags())
            play = spoiler(level, rules, bag)
            while play is not None and len(play) < 8:
                letters = [a for a in "udlrUDLRi" if is_play(level, rules, bag, play + a)]
                if not letters:
                    break
                play += chance.choice(letters)
                gone_on += 1
                self.assertIs(True, is_spoiler(level, rules, bag, play))
                self.assertNotIn("star", options(level, rules, bag, play))
        self.assertGreater(gone_on, 60)

    def test_safe_levels_and_safe_children(self):
        """A child of a safe level need not be safe, and a level of safe children need not be."""
        level = Level(Room(["*@1"]), [Level(Room(["@."]))])
        self.assertTrue(is_safe(level, RULES, NOTHING))
        self.assertFalse(is_safe(level.part((1,)), RULES, NOTHING))
        level = Level(Room(["1@v", "##."]), [SAFE])
        self.assertTrue(is_safe(level.part((1,)), RULES, NOTHING))
        self.assertFalse(is_safe(level, RULES, NOTHING))

    def test_long_rows(self):
        level = row_of(Room(["@.1"]), Level(Room(["@.v*", "##.#"])), 59)
        self.assertEqual("", spoiler(level, RULES, NOTHING))
        self.assertEqual([NOTHING], options(level, RULES, NOTHING, "rri" * 59))
        level = row_of(Room(["*@1"]), SAFE, 59)
        self.assertTrue(is_safe(level, RULES, NOTHING))
        self.assertEqual([NOTHING, "star"], options(level, RULES, NOTHING, "ri" * 59))
        level = row_of(Room(["*@1"]), Level(Room(["@.v", "##."])), 59)
        self.assertEqual("ri" * 59 + "rr", spoiler(level, RULES, NOTHING))
        self.assertTrue(is_spoiler(level, RULES, NOTHING, "ri" * 59 + "rrd"))
        self.assertFalse(is_spoiler(level, RULES, NOTHING, "ri" * 59 + "r"))

    def test_large_levels(self):
        chance = random.Random(104)
        for number in range(4):
            rules = ALL_RULES[number % 8]
            level = random_level(chance, 25, 10)
            for bag in rules.bags():
                play = spoiler(level, rules, bag)
                self.assertIs(play is None, is_safe(level, rules, bag))
                if play is not None:
                    self.assertTrue(is_spoiler(level, rules, bag, play))

    def test_what_is_returned_is_new_each_time(self):
        frail(EXAMPLE, RULES)[NOTHING].clear()
        frail(EXAMPLE, RULES).clear()
        self.assertEqual(2, len(frail(EXAMPLE, RULES)[NOTHING]))
        options(EXAMPLE, RULES, NOTHING, "").clear()
        self.assertEqual(3, len(options(EXAMPLE, RULES, NOTHING, "")))
        self.assertEqual(spoiler(EXAMPLE, RULES, NOTHING), spoiler(EXAMPLE, RULES, NOTHING))


class IsSpoilerTest(unittest.TestCase):
    def test_things_of_any_kind(self):
        for thing in anything():
            self.assertIs(False, is_spoiler(SAFE, RULES, NOTHING, thing))
            self.assertIs(isinstance(thing, str) and thing == "", is_spoiler(Level(Room(["@"])), RULES, NOTHING, thing))
        for thing in (["r", "r", "i", "o"], ("rrio",), b"rrio", "rrio ", "rriou", "RRIO", "rrio" * 10 ** 5):
            self.assertIs(False, is_spoiler(EXAMPLE, RULES, NOTHING, thing))
        self.assertIs(True, is_spoiler(EXAMPLE, RULES, NOTHING, "rrio" + "lr" * 40000))


class ErrorTest(unittest.TestCase):
    def test_in_their_order(self):
        large = Level(LARGE_ROOM)
        for thing in anything():
            if not isinstance(thing, Level):
                wanted_error(self, BadLevel, "value", thing, frail, thing, None)
                wanted_error(self, BadLevel, "value", thing, is_safe, thing, None, None)
                wanted_error(self, BadLevel, "value", thing, spoiler, thing, None, None)
                wanted_error(self, BadLevel, "value", thing, options, thing, None, None, None)
                wanted_error(self, BadLevel, "value", thing, is_spoiler, thing, None, None, None)
            if not isinstance(thing, Rules):
                wanted_error(self, BadRules, "value", thing, frail, large, thing)
                wanted_error(self, BadRules, "value", thing, is_safe, large, thing, None)
                wanted_error(self, BadRules, "value", thing, spoiler, large, thing, None)
                wanted_error(self, BadRules, "value", thing, options, large, thing, None, None)
                wanted_error(self, BadRules, "value", thing, is_spoiler, large, thing, None, None)
            if not isinstance(thing, tuple) or thing not in RULES.bags() or thing == (True, False):
                wanted_error(self, BadBag, "value", thing, is_safe, large, RULES, thing)
                wanted_error(self, BadBag, "value", thing, spoiler, large, RULES, thing)
                wanted_error(self, BadBag, "value", thing, options, large, RULES, thing, None)
                wanted_error(self, BadBag, "value", thing, is_spoiler, large, RULES, thing, None)
            if not isinstance(thing, str):
                wanted_error(self, BadPlay, "at", -1, options, large, RULES, NOTHING, thing)

    def test_plays(self):
        wanted_error(self, BadPlay, "at", 0, options, Level(LARGE_ROOM), RULES, NOTHING, "ix")
        wanted_error(self, BadPlay, "at", 1, options, Level(LARGE_ROOM), RULES, NOTHING, "o")
        wanted_error(self, BadPlay, "at", 1, options, Level(LARGE_ROOM), RULES, NOTHING, "oo")
        wanted_error(self, BadPlay, "at", 5, options, EXAMPLE, RULES, NOTHING, "rrirr")
        wanted_error(self, BadPlay, "at", 5, options, EXAMPLE, RULES, NOTHING, "rrirrx")
        wanted_error(self, BadPlay, "at", 3, options, EXAMPLE, RULES, NOTHING, "rlo")

    def test_too_many(self):
        for level in (Level(LARGE_ROOM), Level(DOOR_ROOM), Level(Room(["@#1*"]), [Level(LARGE_ROOM)])):
            wanted_error(self, TooMany, None, None, frail, level, RULES)
            wanted_error(self, TooMany, None, None, is_safe, level, RULES, NOTHING)
            wanted_error(self, TooMany, None, None, spoiler, level, RULES, NOTHING)
            wanted_error(self, TooMany, None, None, options, level, RULES, NOTHING, "")
            for thing in ("", "o", "x", None):
                wanted_error(self, TooMany, None, None, is_spoiler, level, RULES, NOTHING, thing)
        self.assertFalse(is_safe(Level(FULL_ROOM), RULES, NOTHING))
        self.assertEqual("", spoiler(Level(FULL_ROOM), RULES, NOTHING))


if __name__ == "__main__":
    unittest.main()
