import random
import unittest

from anything import anything, wanted_error
from naive import ALL_RULES, is_position, naive_positions, position_of, random_level
from roomsthrough.errors import BadBag, BadLevel, BadPlay, BadRules, MazeError, NothingDone, TooMany
from roomsthrough.frailty import options
from roomsthrough.levels import Level, row_of
from roomsthrough.playing import Play
from roomsthrough.plays import least, walk
from roomsthrough.rooms import Room
from roomsthrough.rules import Rules
from test_levels import bush, row
from test_middle import DOOR_ROOM, EXAMPLE, FULL_ROOM, LARGE_ROOM

RULES = Rules()
NOTHING = (0, 0)
STARS = "...*oabA^v<>"
LETTERS = "udlrUDLRio"


class Wrong(Exception):
    pass


def all_of(play):
    return (play.letters, play.where(), play.spoilt(), play.left(), play.hint())


def letters_left(positions):
    """For each position the least number of letters to the star, by going on from the ends."""
    left, ahead, now = {}, {}, []
    for position, letters in positions.items():
        for _, after in letters:
            if is_position(after):
                ahead.setdefault(after, []).append(position)
            elif after == "star" and position not in left:
                left[position] = 1
                now.append(position)
    while now:
        behind = []
        for position in now:
            for earlier in ahead.get(position, ()):
                if earlier not in left:
                    left[earlier] = left[position] + 1
                    behind.append(earlier)
        now = behind
    return left


class GoingTest(unittest.TestCase):
    def test_the_example_of_the_document(self):
        play = Play(EXAMPLE, RULES)
        self.assertEqual("", play.letters)
        self.assertEqual(5, play.left())
        self.assertIs(False, play.spoilt())
        for letter in "rrirr":
            self.assertEqual(letter, play.hint())
            self.assertIsNone(play.go(letter))
        self.assertEqual(("rrirr", ("won",), False, 0, None), all_of(play))

    def test_each_bag_and_the_empty_one_without_one(self):
        for rules in ALL_RULES:
            for bag in rules.bags():
                play = Play(EXAMPLE, rules, bag)
                self.assertEqual(walk(EXAMPLE, rules, bag, ""), play.where())
                self.assertEqual(least(EXAMPLE, rules, bag, "star"), play.left())
            self.assertEqual(walk(EXAMPLE, rules, NOTHING, ""), Play(EXAMPLE, rules).where())

    def test_goes_put_together(self):
        chance = random.Random(361)
        for number in range(60):
            level, rules = random_level(chance, 1 + number % 4, 8), ALL_RULES[number % 8]
            bag = chance.choice(rules.bags())
            play, letters = Play(level, rules, bag), ""
            for _ in range(25):
                more = "".join(chance.choice(LETTERS) for _ in range(chance.choice((0, 1, 1, 1, 2, 3))))
                try:
                    wanted = walk(level, rules, bag, letters + more)
                except BadPlay as error:
                    wanted_error(self, BadPlay, "at", error.at - len(letters), play.go, more)
                    self.assertEqual(walk(level, rules, bag, letters), play.where())
                    self.assertEqual(letters, play.letters)
                    continue
                self.assertIsNone(play.go(more))
                letters += more
                self.assertEqual((letters, wanted), (play.letters, play.where()))

    def test_letters_that_are_not_possible_at_each_place(self):
        for at in range(6):
            for wrong in ("u", "o", "x", "R", " ", "", "\u00e9", "rr"):
                letters = "rrirr"[:at] + wrong + "rrirr"[at:]
                play = Play(EXAMPLE, RULES)
                play.go("r")
                play.undo()
                play.go("")
                kept = all_of(play)
                try:
                    walk(EXAMPLE, RULES, NOTHING, letters)
                except BadPlay as error:
                    wanted_error(self, BadPlay, "at", error.at, play.go, letters)
                    self.assertEqual(kept, all_of(play))
                    play.undo()
                    wanted_error(self, NothingDone, None, None, play.undo)

    def test_behind_the_end(self):
        for ending in ("rrirr", "o", "rlo"):
            play = Play(EXAMPLE, RULES)
            play.go(ending)
            kept = all_of(play)
            for letter in LETTERS + "x":
                wanted_error(self, BadPlay, "at", 0, play.go, letter)
            wanted_error(self, BadPlay, "at", 0, play.go, "rr")
            play.go("")
            self.assertEqual(kept, all_of(play))
            other = Play(EXAMPLE, RULES)
            wanted_error(self, BadPlay, "at", len(ending), other.go, ending + "r")
            self.assertEqual("", other.letters)

    def test_what_is_no_string(self):
        play = Play(EXAMPLE, RULES)
        play.go("rr")
        kept = all_of(play)
        for thing in anything():
            if not isinstance(thing, str):
                wanted_error(self, BadPlay, "at", -1, play.go, thing)
            elif thing:
                with self.assertRaises(BadPlay):
                    play.go(thing)
        self.assertEqual(kept, all_of(play))
        play.undo()
        wanted_error(self, NothingDone, None, None, play.undo)

    def test_two_plays_of_one_level(self):
        one, other = Play(EXAMPLE, RULES), Play(EXAMPLE, RULES)
        one.go("rr")
        self.assertEqual(("", 5), (other.letters, other.left()))
        other.go("o")
        self.assertEqual(("rr", 3), (one.letters, one.left()))
        self.assertEqual(("out", NOTHING), other.where())
        one.undo()
        wanted_error(self, NothingDone, None, None, one.undo)
        other.undo()
        self.assertEqual(all_of(one), all_of(other))


class UndoTest(unittest.TestCase):
    def test_all_of_them_and_beyond(self):
        chance = random.Random(362)
        for number in range(40):
            level, rules = random_level(chance, 1 + number % 3, 8), ALL_RULES[number % 8]
            play, kept = Play(level, rules), []
            wanted_error(self, NothingDone, None, None, play.undo)
            for _ in range(30):
                now = (play.letters, play.where())
                try:
                    play.go("".join(chance.choice(LETTERS) for _ in range(chance.choice((0, 1, 2)))))
                except BadPlay:
                    self.assertEqual(now, (play.letters, play.where()))
                    continue
                kept.append(now)
                if chance.random() < 0.3:
                    self.assertIsNone(play.undo())
                    self.assertEqual(kept.pop(), (play.letters, play.where()))
            while kept:
                play.undo()
                self.assertEqual(kept.pop(), (play.letters, play.where()))
            self.assertEqual("", play.letters)
            for _ in range(3):
                wanted_error(self, NothingDone, None, None, play.undo)
            self.assertEqual(walk(level, rules, NOTHING, ""), play.where())

    def test_the_empty_go_is_one_to_take_back(self):
        play = Play(EXAMPLE, RULES)
        play.go("r")
        play.go("")
        play.undo()
        self.assertEqual("r", play.letters)
        play.undo()
        self.assertEqual("", play.letters)
        wanted_error(self, NothingDone, None, None, play.undo)

    def test_ends_are_taken_back(self):
        play = Play(EXAMPLE, RULES)
        play.go("rri")
        for ending in ("rr", "ollo"):
            play.go(ending)
            self.assertIn(play.where()[0], ("won", "out"))
            play.undo()
            self.assertEqual(("rri", walk(EXAMPLE, RULES, NOTHING, "rri"), False, 2), all_of(play)[:4])


class LeftTest(unittest.TestCase):
    def test_against_a_search_behind_each_position(self):
        chance = random.Random(363)
        seen = {"left": 0, "spoilt": 0, "deep": 0}
        for number in range(90):
            level, rules = random_level(chance, 1 + number % 4, 7, STARS), ALL_RULES[number % 8]
            bag = chance.choice(rules.bags())
            positions = naive_positions(level, rules, bag, 1500)
            if positions is None:
                continue
            left = letters_left(positions)
            plays = self.plays_to(positions)
            play = Play(level, rules, bag)
            for position in chance.sample(list(positions), min(len(positions), 25)):
                play.go(plays[position])
                self.assertEqual(position_of(level, position), play.where())
                wanted = left.get(position)
                self.assertEqual((wanted, wanted is None), (play.left(), play.spoilt()))
                self.assertIs("star" not in options(level, rules, bag, play.letters), play.spoilt())
                seen["spoilt" if wanted is None else "left"] += 1
                seen["deep"] += len(position) > 1
                self.check_hint(play, positions[position], left)
                if chance.random() < 0.7:
                    play.undo()
                else:
                    play = Play(level, rules, bag)
        self.assertGreater(min(seen.values()), 100, seen)

    def plays_to(self, positions):
        """For each position the letters of a play to it."""
        plays = {next(iter(positions)): ""}
        for position in positions:
            for letter, after in positions[position]:
                if is_position(after) and after not in plays:
                    plays[after] = plays[position] + letter
        return plays

    def check_hint(self, play, letters, left):
        hint = play.hint()
        if play.left() is None:
            self.assertIsNone(hint)
            return
        behind = dict(letters)[hint]
        self.assertEqual(play.left() - 1, 0 if behind == "star" else left[behind])

    def test_hints_followed_to_the_end(self):
        chance = random.Random(364)
        followed = 0
        for number in range(150):
            level, rules = random_level(chance, 1 + number % 6, 9, STARS), ALL_RULES[number % 8]
            bag = chance.choice(rules.bags())
            play = Play(level, rules, bag)
            many = play.left()
            self.assertEqual(least(level, rules, bag, "star"), many)
            self.assertIs(many is None, play.spoilt())
            if many is None:
                self.assertIsNone(play.hint())
                continue
            for left in range(many, 0, -1):
                self.assertEqual((left, False), (play.left(), play.spoilt()))
                play.go(play.hint())
            self.assertEqual((("won",), False, 0, None), all_of(play)[1:])
            self.assertEqual(many, len(play.letters))
            followed += 1
        self.assertGreater(followed, 30)

    def test_hints_behind_random_goes(self):
        chance = random.Random(365)
        for number in range(60):
            level, rules = random_level(chance, 1 + number % 5, 9, STARS), ALL_RULES[number % 8]
            play = Play(level, rules)
            for _ in range(30):
                now = play.letters
                try:
                    play.go(chance.choice(LETTERS))
                except BadPlay:
                    continue
                if play.where()[0] == "out" or play.where() == ("won",):
                    play.undo()
            now, left = play.letters, play.left()
            if left is None:
                self.assertTrue(play.spoilt())
                continue
            while play.hint() is not None:
                play.go(play.hint())
            self.assertEqual((("won",), len(now) + left), (play.where(), len(play.letters)))

    def test_plays_that_have_gone_out_and_plays_that_have_won(self):
        play = Play(EXAMPLE, RULES)
        play.go("o")
        self.assertEqual(("o", ("out", NOTHING), True, None, None), all_of(play))
        play.undo()
        play.go("rrirr")
        self.assertEqual(("rrirr", ("won",), False, 0, None), all_of(play))

    def test_spoilt_plays(self):
        play = Play(EXAMPLE, RULES)
        play.go("rrio")
        self.assertEqual((True, None, None), all_of(play)[2:])
        play.go("ll")
        self.assertEqual((True, None, None), all_of(play)[2:])
        play.undo()
        play.undo()
        self.assertEqual(5, play.left())

    def test_sixty_rooms(self):
        for level, many in ((row(60), 119), (row_of(Room(["@.1"]), Level(Room(["@.*"])), 59), 59 * 3 + 2)):
            play = Play(level, RULES)
            self.assertEqual(many, play.left())
            for left in range(many, 0, -1):
                self.assertEqual(left, play.left())
                play.go(play.hint())
            self.assertEqual(("won",), play.where())
            while play.letters:
                play.undo()
            self.assertEqual(many, play.left())
        key = Level(Room(["@A*"]))
        level = row_of(Room(["@>1", "a.."]), key, 59)
        play = Play(level, RULES)
        self.assertEqual(least(level, RULES, NOTHING, "star"), play.left())
        play.go("r")
        self.assertEqual(play.left() is None, play.spoilt())
        bushy = Play(bush(60), RULES)
        while bushy.hint() is not None:
            bushy.go(bushy.hint())
        self.assertEqual(("won",), bushy.where())
        self.assertEqual(least(bush(60), RULES, NOTHING, "star"), len(bushy.letters))

    def test_asked_for_at_the_far_end_alone(self):
        """Nothing is known about the rooms around when the first question comes."""
        level = row_of(Room(["@1..*"]), Level(Room(["@..a"])), 59)
        play = Play(level, RULES)
        play.go("ri" * 59)
        # Out of the last room and then on to the star of the one above.
        self.assertEqual(4, play.left())
        self.assertEqual("o", play.hint())
        play.go("rrr")
        self.assertEqual(7, play.left())
        self.assertEqual("l", play.hint())

    def test_rooms_too_large(self):
        for level in (Level(LARGE_ROOM), Level(Room(["1@*"]), [Level(DOOR_ROOM)]), Level(Room(["1@*"]), [Level(LARGE_ROOM)])):
            play = Play(level, RULES)
            for asked in (play.spoilt, play.left, play.hint):
                wanted_error(self, TooMany, None, None, asked)
            play.go("")
            play.undo()
            self.assertEqual(walk(level, RULES, NOTHING, ""), play.where())
        self.assertIsNone(Play(Level(FULL_ROOM), RULES).left())


class TrialTest(unittest.TestCase):
    def setUp(self):
        self.play = Play(EXAMPLE, RULES)
        self.play.go("r")
        self.play.go("r")
        self.kept = all_of(self.play)

    def tearDown(self):
        """Behind each trial the play is as it was, undos too."""
        self.assertEqual(self.kept, all_of(self.play))
        self.play.undo()
        self.assertEqual("r", self.play.letters)
        self.play.undo()
        self.assertEqual("", self.play.letters)
        wanted_error(self, NothingDone, None, None, self.play.undo)

    def test_what_the_deed_returns(self):
        given = []

        def deed(play):
            given.append(play)
            return given

        self.assertIs(given, self.play.trial(deed))
        self.assertEqual(1, len(given))
        self.assertIs(self.play, given[0])
        self.assertIsNone(self.play.trial(lambda play: None))
        self.assertEqual(3, self.play.trial(lambda play: play.left()))

    def test_what_the_deed_raises(self):
        def deed(play):
            play.go("irr")
            play.undo()
            play.undo()
            raise Wrong("told")

        with self.assertRaises(Wrong) as caught:
            self.play.trial(deed)
        self.assertEqual("told", str(caught.exception))

        def other(play):
            play.go("i")
            play.go("irr")

        wanted_error(self, BadPlay, "at", 0, self.play.trial, other)
        for thing in (KeyError, ZeroDivisionError, MazeError, StopIteration, KeyboardInterrupt, SystemExit):
            def third(play):
                play.go("i")
                raise thing("x")

            with self.assertRaises(thing):
                self.play.trial(third)

    def test_goes_and_undos_in_it(self):
        def deed(play):
            play.go("i")
            play.go("rr")
            self.assertEqual(("rrirr", ("won",), False, 0, None), all_of(play))
            play.undo()
            play.go("o")
            return all_of(play)[2:]

        self.assertEqual((True, None, None), self.play.trial(deed))

    def test_undos_of_goes_that_stood_before(self):
        def deed(play):
            play.undo()
            self.assertEqual("r", play.letters)
            play.undo()
            wanted_error(self, NothingDone, None, None, play.undo)
            play.go("o")
            return play.where()

        self.assertEqual(("out", NOTHING), self.play.trial(deed))

        def other(play):
            play.undo()
            play.go("l")
            play.go("o")

        self.play.trial(other)

    def test_a_trial_within_a_trial(self):
        def inner(play):
            play.undo()
            play.undo()
            play.undo()
            play.go("lo")
            return play.letters

        def deed(play):
            play.go("i")
            play.go("r")
            kept = all_of(play)
            told = play.trial(inner)
            self.assertEqual(kept, all_of(play))
            play.undo()
            self.assertEqual("rri", play.letters)
            with self.assertRaises(Wrong):
                play.trial(raising)
            self.assertEqual("rri", play.letters)
            return told

        def raising(play):
            play.undo()
            play.trial(inner_raising)

        def inner_raising(play):
            play.go("l")
            raise Wrong()

        self.assertEqual("rlo", self.play.trial(deed))

    def test_changes_by_the_outer_name(self):
        def deed(_):
            self.play.undo()
            self.play.go("o" if self.play.where()[0][0] == 0 else "lo")
            return self.play.letters

        self.assertEqual("rlo", self.play.trial(deed))

    def test_a_play_that_is_new(self):
        play = Play(EXAMPLE, RULES)
        self.assertEqual(("won",), play.trial(lambda same: same.go("rrirr") or same.where()))
        self.assertEqual("", play.letters)
        wanted_error(self, NothingDone, None, None, play.undo)

    def test_one_trial_behind_the_other(self):
        for _ in range(5):
            self.assertEqual("rri", self.play.trial(lambda play: play.go("i") or play.letters))
        self.play.go("i")
        self.assertEqual("rrio", self.play.trial(lambda play: play.go("o") or play.letters))
        self.play.undo()


class ErrorTest(unittest.TestCase):
    def test_in_their_order(self):
        for thing in anything():
            if not isinstance(thing, Level):
                wanted_error(self, BadLevel, "value", thing, Play, thing, None, None)
                wanted_error(self, BadLevel, "value", thing, Play, thing, None)
            if not isinstance(thing, Rules):
                wanted_error(self, BadRules, "value", thing, Play, EXAMPLE, thing, None)
                wanted_error(self, BadRules, "value", thing, Play, EXAMPLE, thing)
            if thing not in ((0, 0), (0, 1)) or isinstance(thing[0], bool):
                wanted_error(self, BadBag, "value", thing, Play, EXAMPLE, RULES, thing)
        wanted_error(self, BadBag, "value", (2, 0), Play, EXAMPLE, RULES, (2, 0))
        self.assertEqual("", Play(EXAMPLE, Rules(2), (2, 0)).letters)
        for thing in anything():
            self.assertFalse(Play(EXAMPLE, RULES) == thing)


if __name__ == "__main__":
    unittest.main()
