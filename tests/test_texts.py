import random
import unittest

from anything import anything, wanted_error
from naive import random_level
from roomsthrough.errors import BadGrammar, BadLevel, BadRoom, BadText, MazeError, TooMany
from roomsthrough.grammars import Grammar
from roomsthrough.levels import Level, row_of
from roomsthrough.rooms import Room
from roomsthrough.texts import read_grammar, read_level, write_grammar, write_level
from test_grammars import END, FORK, LEAF, LINE, ROW, TREE, random_grammar
from test_levels import bush, row
from test_middle import EXAMPLE

WIDE = Level(Room(["1@2"]), [Level(Room(["@.1", "..."]), [Level(LEAF)]), Level(Room(["@"]))])
WRONG_LINES = [
    "", " ", "@ ", " @", "@/", "/@", "@//@", "..", "@@", "@/..", "@/x/oo", "@2", "@1/1.", "@%", "@\r", "@\t", "@.A1\u00e9", "\u0661@",
    "@" + "." * 6, "@/./././././.", "@oooo", "@aAbBa", "/".join(["@....."] + ["......"] * 3 + ["."]), "@ 1", "#", "@**", "@;1", "@\\1",
    "@1\u2028", "@1\x0b", "@1\x0c", "@1\x1c", "@1\x85",
]


def read_by_words(text, is_room):
    """What the document says of a text of a level: the level's rooms and mouths, or the number of the first wrong line."""
    lines, missing = text.split("\n"), 1
    for number, line in enumerate(lines, 1):
        if missing == 0 or not is_room(line):
            return number
        missing += ("1" in line) + ("2" in line) - 1
    return None if missing == 0 else len(lines) + 1


def is_room(line):
    try:
        Room(line.split("/"))
    except BadRoom:
        return False
    return True


class LevelTest(unittest.TestCase):
    def test_by_hand(self):
        self.assertEqual("@a1\n@A*", write_level(EXAMPLE))
        self.assertEqual("1@2\n@.1/...\n@*\n@", write_level(WIDE))
        self.assertEqual("@", write_level(Level(Room(["@"]))))
        self.assertTrue(read_level("@a1\n@A*") == EXAMPLE)
        self.assertTrue(read_level("1@2\n@.1/...\n@*\n@") == WIDE)
        self.assertFalse(read_level("1@2\n@\n@.1/...\n@*") == WIDE)

    def test_written_and_read_back(self):
        chance = random.Random(371)
        for number in range(150):
            level = random_level(chance, 1 + number % 9, 24)
            text = write_level(level)
            self.assertTrue(read_level(text) == level)
            self.assertEqual(text, write_level(read_level(text)))
            self.assertEqual(level.rooms, len(text.split("\n")))

    def test_sixty_and_sixty_one_rooms(self):
        for level in (row(60), bush(60), Level(FORK, [row(29), bush(30)]), Level(FORK, [bush(58), row(1)])):
            self.assertTrue(read_level(write_level(level)) == level)
        line, end = "@1", "@*"
        self.assertEqual(60, read_level("\n".join([line] * 59 + [end])).rooms)
        for many in (60, 61, 500, 20000):
            wanted_error(self, TooMany, None, None, read_level, "\n".join([line] * many + [end]))
            wanted_error(self, BadText, "at", many + 1, read_level, "\n".join([line] * many))
            wanted_error(self, BadText, "at", many + 2, read_level, "\n".join([line] * many + [end, end]))
            wanted_error(self, BadText, "at", many, read_level, "\n".join([line] * (many - 1) + ["", end, end]))
        forks = ["1@2"] * 30 + [end] * 31
        wanted_error(self, TooMany, None, None, read_level, "\n".join(forks))
        wanted_error(self, BadText, "at", 61, read_level, "\n".join(forks[:-1]))
        wanted_error(self, BadText, "at", 62, read_level, "\n".join(forks + [""]))
        self.assertEqual(59, read_level("\n".join(forks[1:-1])).rooms)

    def test_wrong_lines_at_each_place(self):
        lines = write_level(WIDE).split("\n")
        for wrong in WRONG_LINES:
            for at in range(4):
                changed = lines[:at] + [wrong] + lines[at + 1:]
                wanted_error(self, BadText, "at", at + 1, read_level, "\n".join(changed))
                wanted_error(self, BadText, "at", at + 1, read_level, "\n".join(changed[:at + 1]))
                wanted_error(self, BadText, "at", at + 1, read_level, "\n".join(changed[:at + 1] + [""] * 3))
            wanted_error(self, BadText, "at", 5, read_level, "\n".join(lines + [wrong]))
            wanted_error(self, BadText, "at", 1, read_level, wrong)

    def test_lines_left_out_doubled_exchanged_and_joined(self):
        chance = random.Random(372)
        seen = {True: 0, False: 0}
        for number in range(200):
            lines = write_level(random_level(chance, 1 + number % 6, 8)).split("\n")
            at, kind = chance.randrange(len(lines)), chance.randrange(6)
            if kind == 0:
                lines.pop(at)
            elif kind == 1:
                lines.insert(at, lines[at])
            elif kind == 2:
                lines.insert(chance.randrange(len(lines)), lines.pop(at))
            elif kind == 3 and at + 1 < len(lines):
                lines[at:at + 2] = [lines[at] + chance.choice(["", "/", " "]) + lines[at + 1]]
            elif kind == 4:
                lines.insert(at, "")
            else:
                lines[at] = lines[at].replace(chance.choice("@.1"), chance.choice("@.12/ "), 1)
            text = "\n".join(lines)
            wanted = read_by_words(text, is_room)
            seen[wanted is None] += 1
            if wanted is None:
                self.assertEqual(text, write_level(read_level(text)))
            else:
                wanted_error(self, BadText, "at", wanted, read_level, text)
        self.assertGreater(min(seen.values()), 20, seen)

    def test_a_line_feed_at_the_end(self):
        for level in (EXAMPLE, WIDE, row(60)):
            text = write_level(level)
            wanted_error(self, BadText, "at", level.rooms + 1, read_level, text + "\n")
            wanted_error(self, BadText, "at", level.rooms + 1, read_level, text + "\n\n")
            wanted_error(self, BadText, "at", 1, read_level, "\n" + text)
            wanted_error(self, BadText, "at", 1, read_level, text.replace("\n", "\r\n", 1))
            wanted_error(self, BadText, "at", level.rooms, read_level, text + "\r")
        wanted_error(self, BadText, "at", 2, read_level, "@1\n")
        wanted_error(self, BadText, "at", 2, read_level, "@1")
        wanted_error(self, BadText, "at", 2, read_level, "@\n@")

    def test_texts_of_any_kind(self):
        for thing in anything():
            if not isinstance(thing, str):
                wanted_error(self, BadText, "at", -1, read_level, thing)
                wanted_error(self, BadText, "at", -1, read_grammar, thing)
            elif thing in ("@", "@.", "@1\n@"):
                self.assertEqual(thing, write_level(read_level(thing)))
            else:
                wanted_error(self, BadText, "at", 1, read_level, thing)
        wanted_error(self, BadText, "at", 1, read_level, "")
        wanted_error(self, BadText, "at", 1, read_level, "\n" * 100000)
        for thing in (b"@", ["@"], ("@",), Level(LEAF), LEAF):
            wanted_error(self, BadText, "at", -1, read_level, thing)

    def test_what_is_no_level(self):
        for thing in anything():
            if not isinstance(thing, Level):
                wanted_error(self, BadLevel, "value", thing, write_level, thing)
            if not isinstance(thing, Grammar):
                wanted_error(self, BadGrammar, "value", thing, write_grammar, thing)


class GrammarTest(unittest.TestCase):
    def test_by_hand(self):
        self.assertEqual("start s\ns @1 s\ns @*", write_grammar(ROW))
        self.assertEqual("start s\ns 1@2 s t\ns @*\nt @1 s\nt @\ns @1 t", write_grammar(TREE))
        grammar = Grammar([("abcdefgh", Room(["@.", "1."]), ("start",))], "z")
        self.assertEqual("start z\nabcdefgh @./1. start", write_grammar(grammar))
        self.assertTrue(read_grammar("start z\nabcdefgh @./1. start") == grammar)
        self.assertTrue(read_grammar("start start\nstart @") == Grammar([("start", Room(["@"]), ())], "start"))

    def test_written_and_read_back(self):
        chance = random.Random(373)
        for number in range(150):
            grammar = random_grammar(chance, 10, ("s", "start", "abcdefgh"), 20)
            text = write_grammar(grammar)
            self.assertTrue(read_grammar(text) == grammar)
            self.assertEqual(text, write_grammar(read_grammar(text)))

    def test_the_first_line(self):
        for wrong in (
            "", "start", "start ", "start  s", " start s", "start s ", "start s t", "Start s", "start S", "start abcdefghi", "s", "s s",
            "starts s", "start\ts", "start s1", "start \u00e9", "start\u00a0s", "start s\r", "start @", "s @*", "start,s",
        ):
            for more in ("", "\ns @*", "\nwrong"):
                wanted_error(self, BadText, "at", 1, read_grammar, wrong + more)
        for name in ("s", "abcdefgh", "start"):
            self.assertEqual(name, read_grammar("start " + name + "\ns @*").start)

    def test_a_text_without_a_production(self):
        wanted_error(self, BadText, "at", 2, read_grammar, "start s")
        wanted_error(self, BadText, "at", 2, read_grammar, "start s\n")
        wanted_error(self, BadText, "at", 2, read_grammar, "start s\n\ns @*")

    def test_wrong_lines_at_each_place(self):
        lines = write_grammar(TREE).split("\n")
        for wrong in (
            "", " ", "s", "s ", "s  @*", " s @*", "s @* ", "s @* s", "s @1", "s @1 ", "s @1 s s", "s @1  s", "s 1@2 s", "s 1@2 s s s",
            "S @*", "s1 @*", "abcdefghi @*", "@*", "@* s", "s @", "s @1 S", "s @1 abcdefghi", "s @*/", "s @*/@", "s / ", "s @ *",
            "s\t@*", "s @*\r", "s @1\u00a0s", "start s", "s @*\x0b", "s \u00e9", "s @1 \u00e9", "s @1 s1", "s @oooo", "s @2 s",
        ):
            for at in range(1, len(lines)):
                if wrong == "s @":
                    self.assertEqual(6, len(read_grammar("\n".join(lines + [wrong])).rows))
                    continue
                changed = lines[:at] + [wrong] + lines[at + 1:]
                wanted_error(self, BadText, "at", at + 1, read_grammar, "\n".join(changed))
                wanted_error(self, BadText, "at", at + 1, read_grammar, "\n".join(changed[:at + 1] + ["wrong"] * 20))
            if wrong != "s @":
                wanted_error(self, BadText, "at", len(lines) + 1, read_grammar, "\n".join(lines + [wrong]))

    def test_ten_and_eleven_productions(self):
        lines = ["start s"] + ["s @*"] * 10
        self.assertEqual(10, len(read_grammar("\n".join(lines)).rows))
        for many in (1, 2, 5000):
            wanted_error(self, BadText, "at", -1, read_grammar, "\n".join(lines + ["s @*"] * many))
            wanted_error(self, BadText, "at", 11 + many + 1, read_grammar, "\n".join(lines + ["s @*"] * many + [""]))
        wanted_error(self, BadText, "at", 12, read_grammar, "\n".join(lines + [""]))
        wanted_error(self, BadText, "at", 12, read_grammar, "\n".join(lines + ["s @1"]))

    def test_five_and_six_names(self):
        lines = ["start a", "b 1@2 c d", "e @*"]
        self.assertEqual(list("abcde"), read_grammar("\n".join(lines)).names())
        wanted_error(self, BadText, "at", -1, read_grammar, "\n".join(lines + ["f @*"]))
        wanted_error(self, BadText, "at", -1, read_grammar, "\n".join(lines + ["a @1 f"]))
        wanted_error(self, BadText, "at", 4, read_grammar, "\n".join(lines + ["f @* f"]))
        wanted_error(self, BadText, "at", 5, read_grammar, "\n".join(lines + ["f @*", "a"]))
        wanted_error(self, BadText, "at", -1, read_grammar, "\n".join(["start f"] + lines[1:] + ["a @*"]))

    def test_lines_changed(self):
        chance = random.Random(374)
        seen = {True: 0, False: 0}
        for number in range(150):
            lines = write_grammar(random_grammar(chance, 4, cells=6)).split("\n")
            at, kind = chance.randrange(len(lines)), chance.randrange(5)
            if kind == 0:
                lines.pop(at)
            elif kind == 1:
                lines.insert(at, lines[at])
            elif kind == 2:
                lines.insert(chance.randrange(len(lines)), lines.pop(at))
            elif kind == 3 and at + 1 < len(lines):
                lines[at:at + 2] = [lines[at] + chance.choice(["", " "]) + lines[at + 1]]
            else:
                lines[at] += chance.choice([" ", " s", "", ".", "/"])
            wanted = self.first_wrong(lines)
            text = "\n".join(lines)
            seen[wanted is None] += 1
            if wanted is None:
                self.assertEqual(text, write_grammar(read_grammar(text)))
            else:
                wanted_error(self, BadText, "at", wanted, read_grammar, text)
        self.assertGreater(min(seen.values()), 20, seen)

    def first_wrong(self, lines):
        names = ("s", "t", "u")
        if lines[0] not in [f"start {name}" for name in names]:
            return 1
        for number, line in enumerate(lines[1:], 2):
            name, _, rest = line.partition(" ")
            rows, _, inner = rest.partition(" ")
            wanted = [] if rest.count(" ") == 0 else inner.split(" ")
            if name not in names or not is_room(rows) or Room(rows.split("/")).mouths != len(wanted):
                return number
            if not set(wanted) <= set(names):
                return number
        return 2 if len(lines) == 1 else None

    def test_the_other_side(self):
        chance = random.Random(375)
        for number in range(30):
            level = random_level(chance, 1 + number % 5, 12)
            text = "\n".join("/".join(line[::-1].translate({60: 62, 62: 60}) for line in row.split("/"))
                             for row in write_level(level).split("\n"))

            def mirrored(one):
                return Level(one.room.mirrored(), [mirrored(child) for child in one.children])

            self.assertTrue(read_level(text) == mirrored(level))
            self.assertEqual(text, write_level(mirrored(level)))

    def test_nothing_else_is_raised(self):
        chance = random.Random(376)
        for _ in range(400):
            text = "".join(chance.choice("start @*1/\ns ") for _ in range(chance.randrange(30)))
            for read in (read_level, read_grammar):
                for start in ("", "start s\n"):
                    try:
                        read(start + text)
                    except MazeError as error:
                        self.assertIsInstance(error, BadText)
        self.assertTrue(read_grammar("start s\ns @*") == Grammar([END], "s"))
        self.assertTrue(row_of(LINE, Level(LEAF), 1) == read_level("@1\n@*"))


if __name__ == "__main__":
    unittest.main()
