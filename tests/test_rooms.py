import unittest

from anything import anything, is_whole, wanted_error
from roomsthrough.errors import BadCell, BadMouth, BadRoom
from roomsthrough.rooms import Room

MARKS = "#.^v<>abABoxpg*@12"


class MakingTest(unittest.TestCase):
    def refused(self, at, rows):
        wanted_error(self, BadRoom, "value", at, Room, rows)
        if isinstance(rows, list):
            wanted_error(self, BadRoom, "value", at, Room, tuple(rows))

    def test_rooms_that_are_let(self):
        full = ["@#.^v<", ">xpgoo", "aABb1o", ".....2"]
        for rows in (["@"], ["@1"], ["12@"], ["2@", "#1"], ["@*"], full, ["@"] + ["."] * 4):
            self.assertEqual(tuple(rows), Room(rows).rows)
            self.assertEqual(tuple(rows), Room(tuple(rows)).rows)

    def test_sizes_at_the_edge(self):
        for down, across in ((1, 6), (4, 6), (5, 4), (5, 1), (3, 6), (4, 5)):
            rows = ["." * across for _ in range(down)]
            rows[-1] = "@" + rows[-1][1:]
            self.assertEqual(down, len(Room(rows).rows))

    def test_no_row_of_one_to_five_things(self):
        for thing in anything():
            if not isinstance(thing, (list, tuple)) or not 1 <= len(thing) <= 5:
                self.refused(-1, thing)
        self.refused(-1, ["@"] + ["."] * 5)
        self.refused(-1, [None] * 6)
        self.refused(-1, "@")
        self.refused(-1, {0: "@"})
        self.refused(-1, {"@": 0})

    def test_the_first_thing_that_is_no_line(self):
        for thing in anything():
            if not isinstance(thing, str) or not 1 <= len(thing) <= 6 or not all(mark in MARKS for mark in thing):
                self.refused(0, [thing])
                self.refused(1, ["@", thing])
                self.refused(1, ["@", thing, None])
                self.refused(0, [thing, "@", "@@"])
                self.refused(4, ["@", ".", ".", ".", thing])

    def test_every_character(self):
        for code in range(0, 300):
            mark = chr(code)
            if mark in MARKS:
                text = "".join(["1", "@"]) + (mark if mark not in "1@" else "")
                self.assertEqual((text,), Room([text]).rows)
            else:
                self.refused(0, ["@" + mark])
                self.refused(1, ["@.", "." + mark])

    def test_lines_of_other_lengths(self):
        self.refused(0, [""])
        self.refused(0, ["@......"])
        self.refused(1, ["@.", "."])
        self.refused(1, ["@", ".."])
        self.refused(2, ["@.", "..", "...", "."])
        self.refused(1, ["@", ""])
        self.refused(3, ["@", ".", ".", "C"])

    def test_lines_come_ahead_of_the_rest(self):
        self.refused(1, ["@@", "2"])
        self.refused(1, ["......", "......."])
        self.refused(4, ["......", "......", "......", "......", 0])

    def test_at_most_twenty_four_cells(self):
        self.refused(-1, ["@...."] + ["....."] * 4)
        self.refused(-1, ["@....."] + ["......"] * 4)

    def test_just_one_entry(self):
        for rows in (["."], ["1"], ["@@"], ["@", "@"], ["*"], ["......"] * 4):
            self.refused(-1, rows)

    def test_at_most_one_star(self):
        self.refused(-1, ["@**"])
        self.refused(-1, ["*@", ".*"])

    def test_mouths(self):
        self.refused(-1, ["@11"])
        self.refused(-1, ["@2"])
        self.refused(-1, ["@122"])
        self.refused(-1, ["@112"])
        self.refused(-1, ["2", "@"])
        self.assertEqual(2, Room(["2@1"]).mouths)

    def test_at_most_three_crates(self):
        self.assertEqual(("@ooo",), Room(["@ooo"]).rows)
        self.refused(-1, ["@oooo"])
        self.refused(-1, ["@oo", "oo."])

    def test_at_most_four_keys_and_doors_together(self):
        for marks in ("aaaa", "bbbb", "AAAA", "BBBB", "abAB", "aabb", "ABAB"):
            self.assertEqual(("@" + marks,), Room(["@" + marks]).rows)
            for more in "abAB":
                self.refused(-1, ["@" + marks + more])

    def test_pits_plates_gates_and_one_way_floors_without_bound(self):
        for mark in "xpg^v<>#.":
            self.assertEqual(("@" + mark * 5,), Room(["@" + mark * 5]).rows)

    def test_the_rows_are_copied(self):
        rows = ["@.", "#1"]
        room = Room(rows)
        rows[0] = "##"
        rows.append("..")
        self.assertEqual(("@.", "#1"), room.rows)
        self.assertIsInstance(room.rows, tuple)
        self.assertEqual(["##", "#1", ".."], rows)


class TellingTest(unittest.TestCase):
    room = Room(["#2.a", "o<@*", "x1pg"])

    def test_cells(self):
        self.assertEqual("#2.ao<@*x1pg", "".join([self.room.cell(index) for index in range(12)]))

    def test_no_such_cell(self):
        for thing in anything() + [11, 12, 13]:
            if not is_whole(thing) or not 0 <= thing <= 11:
                wanted_error(self, BadCell, "index", thing, self.room.cell, thing)
        wanted_error(self, BadCell, "index", 1, Room(["@"]).cell, 1)
        wanted_error(self, BadCell, "index", -1, Room(["@"]).cell, -1)

    def test_entry_and_mouths(self):
        self.assertEqual(6, self.room.entry)
        self.assertEqual(2, self.room.mouths)
        self.assertEqual(9, self.room.mouth(1))
        self.assertEqual(1, self.room.mouth(2))
        self.assertEqual(0, Room(["@"]).entry)
        self.assertEqual(0, Room(["@"]).mouths)
        self.assertEqual(1, Room(["1@"]).mouths)
        self.assertEqual(0, Room(["1@"]).mouth(1))

    def test_no_such_mouth(self):
        for thing in anything():
            for room in (self.room, Room(["@1"]), Room(["@"])):
                if not is_whole(thing) or not 1 <= thing <= room.mouths:
                    wanted_error(self, BadMouth, "number", thing, room.mouth, thing)
        wanted_error(self, BadMouth, "number", 2, Room(["@1"]).mouth, 2)
        wanted_error(self, BadMouth, "number", 1, Room(["@"]).mouth, 1)
        wanted_error(self, BadMouth, "number", True, Room(["@1"]).mouth, True)

    def test_equal_if_the_rows_are(self):
        self.assertTrue(Room(["@.", "1#"]) == Room(("@.", "1#")))
        self.assertFalse(Room(["@.", "1#"]) != Room(("@.", "1#")))
        for rows in (["@.1#"], ["@.", "1."], ["@", ".", "1", "#"], [".@", "1#"]):
            self.assertFalse(Room(["@.", "1#"]) == Room(rows))
            self.assertTrue(Room(["@.", "1#"]) != Room(rows))

    def test_unequal_to_everything_else(self):
        for thing in anything() + [("@",), ["@"]]:
            if not isinstance(thing, Room):
                self.assertFalse(Room(["@"]) == thing)
                self.assertTrue(Room(["@"]) != thing)

    def test_mirrored(self):
        mirrored = self.room.mirrored()
        self.assertIsInstance(mirrored, Room)
        self.assertEqual(("a.2#", "*@>o", "gp1x"), mirrored.rows)
        self.assertEqual(("#2.a", "o<@*", "x1pg"), self.room.rows)
        self.assertEqual(("<>v^ab", "BA@xog"), Room(["ba^v<>", "gox@AB"]).mirrored().rows)
        self.assertTrue(mirrored.mirrored() == self.room)
        self.assertEqual((5, 2, 10, 2), (mirrored.entry, mirrored.mouths, mirrored.mouth(1), mirrored.mouth(2)))


if __name__ == "__main__":
    unittest.main()
