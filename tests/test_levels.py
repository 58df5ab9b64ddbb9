import unittest

from anything import anything, is_whole, wanted_error
from roomsthrough.errors import BadCount, BadLevel, BadPath, BadRoom, TooMany
from roomsthrough.levels import Level, row_of
from roomsthrough.rooms import Room

LEAF = Room(["@*"])
ONE = Room(["@1"])
TWO = Room(["1@2"])


def leaf(text="@*"):
    return Level(Room([text]))


def row(many):
    """A level of so many rooms, each behind the one ahead of it."""
    level = leaf()
    for _ in range(many - 1):
        level = Level(ONE, [level])
    return level


def bush(many):
    """A level of so many rooms, with two mouths wherever that goes."""
    if many == 1:
        return leaf()
    if many == 2:
        return Level(ONE, [leaf()])
    half = (many - 1) // 2
    return Level(TWO, [bush(half), bush(many - 1 - half)])


class MakingTest(unittest.TestCase):
    def test_a_room_alone(self):
        level = Level(LEAF)
        self.assertEqual((LEAF, (), 1, 1), (level.room, level.children, level.rooms, level.depth))
        self.assertTrue(level == Level(LEAF, []) == Level(LEAF, ()))

    def test_children_as_a_list_and_as_a_tuple(self):
        for kind in (list, tuple):
            level = Level(TWO, kind([leaf("@"), Level(ONE, kind([leaf()]))]))
            self.assertIsInstance(level.children, tuple)
            self.assertEqual(2, len(level.children))
            self.assertTrue(level.children[0] == leaf("@"))
            self.assertTrue(level.children[1] == Level(ONE, [leaf()]))
            self.assertEqual((4, 3), (level.rooms, level.depth))
            self.assertTrue(level.room == TWO)

    def test_depth_is_that_of_the_deepest_child(self):
        self.assertEqual((6, 4), (Level(TWO, [row(3), row(2)]).rooms, Level(TWO, [row(3), row(2)]).depth))
        self.assertEqual((6, 4), (Level(TWO, [row(2), row(3)]).rooms, Level(TWO, [row(2), row(3)]).depth))
        self.assertEqual((7, 7), (row(7).rooms, row(7).depth))

    def test_the_children_are_copied(self):
        children = [leaf()]
        level = Level(ONE, children)
        children[0] = leaf("@")
        children.append(leaf())
        self.assertTrue(level == Level(ONE, [leaf()]))
        self.assertEqual(2, len(children))

    def test_wrong_rooms(self):
        for thing in anything():
            if not isinstance(thing, Room):
                wanted_error(self, BadRoom, "value", thing, Level, thing)
                wanted_error(self, BadRoom, "value", thing, Level, thing, None)

    def test_wrong_rows_of_children(self):
        for room in (LEAF, ONE, TWO):
            for thing in anything():
                if not isinstance(thing, (list, tuple)) or len(thing) != room.mouths:
                    wanted_error(self, BadLevel, "value", -1, Level, room, thing)
        wanted_error(self, BadLevel, "value", -1, Level, ONE)
        wanted_error(self, BadLevel, "value", -1, Level, TWO, [leaf()])
        wanted_error(self, BadLevel, "value", -1, Level, ONE, [None, None])
        wanted_error(self, BadLevel, "value", -1, Level, ONE, [leaf(), leaf()])
        wanted_error(self, BadLevel, "value", -1, Level, LEAF, [leaf()])

    def test_the_first_child_that_is_no_level(self):
        for thing in anything():
            if not isinstance(thing, Level):
                wanted_error(self, BadLevel, "value", 0, Level, ONE, [thing])
                wanted_error(self, BadLevel, "value", 1, Level, TWO, (leaf(), thing))
                wanted_error(self, BadLevel, "value", 0, Level, TWO, (thing, leaf()))
                wanted_error(self, BadLevel, "value", 0, Level, TWO, (thing, thing))

    def test_at_most_sixty_rooms_in_a_row(self):
        self.assertEqual((59, 59), (row(59).rooms, row(59).depth))
        self.assertEqual((60, 60), (row(60).rooms, row(60).depth))
        wanted_error(self, TooMany, None, None, Level, ONE, [row(60)])

    def test_at_most_sixty_rooms_in_a_tree(self):
        for many in (58, 59, 60):
            self.assertEqual(many, bush(many).rooms)
        self.assertEqual(60, Level(TWO, [bush(30), bush(29)]).rooms)
        wanted_error(self, TooMany, None, None, Level, TWO, [bush(30), bush(30)])
        wanted_error(self, TooMany, None, None, Level, TWO, [bush(60), bush(60)])
        wanted_error(self, TooMany, None, None, Level, TWO, [row(59), leaf()])

    def test_too_many_comes_last(self):
        wanted_error(self, BadLevel, "value", 1, Level, TWO, [row(60), None])
        wanted_error(self, BadRoom, "value", None, Level, None, [row(60)])


class PartTest(unittest.TestCase):
    level = Level(TWO, [Level(ONE, [leaf("@.")]), Level(TWO, [leaf("@a"), leaf("@b")])])
    paths = {
        (): None, (1,): Level(ONE, [leaf("@.")]), (1, 1): leaf("@."), (2,): Level(TWO, [leaf("@a"), leaf("@b")]),
        (2, 1): leaf("@a"), (2, 2): leaf("@b"),
    }

    def test_every_path(self):
        for path, part in self.paths.items():
            self.assertTrue(self.level.part(path) == (self.level if part is None else part))

    def test_deep_paths(self):
        self.assertTrue(row(60).part((1,) * 59) == leaf())
        self.assertTrue(row(60).part((1,) * 30) == row(30))

    def test_paths_that_lead_nowhere_and_things_that_are_none(self):
        more = [(0,), (3,), (1, 2), (1, 1, 1), (2, 3), (2, 0), (-1,), (2, 1, 1), (True,), (1, True), (1.0,), ("1",)]
        for thing in anything() + more + [[1], [], "1", "", {}, {1: 1}, (2, [1]), ((1,),), (1,) * 100000]:
            if isinstance(thing, tuple) and thing in list(self.paths) and True not in [part is True for part in thing]:
                continue
            wanted_error(self, BadPath, "path", thing, self.level.part, thing)
            wanted_error(self, BadPath, "path", thing, self.level.with_part, thing, leaf())
            wanted_error(self, BadPath, "path", thing, self.level.with_part, thing, None)
            wanted_error(self, BadPath, "path", thing, self.level.with_part, thing, row(60))

    def test_with_part_at_every_path(self):
        other = Level(ONE, [leaf("@p")])
        left, right = self.level.children
        wanted = {
            (): other,
            (1,): Level(TWO, [other, right]),
            (1, 1): Level(TWO, [Level(ONE, [other]), right]),
            (2,): Level(TWO, [left, other]),
            (2, 1): Level(TWO, [left, Level(TWO, [other, leaf("@b")])]),
            (2, 2): Level(TWO, [left, Level(TWO, [leaf("@a"), other])]),
        }
        for path in self.paths:
            made = self.level.with_part(path, other)
            self.assertTrue(made == wanted[path], path)
            self.assertEqual((wanted[path].rooms, wanted[path].depth), (made.rooms, made.depth))
            self.assertTrue(made.part(path) == other)
        self.assertTrue(self.level == Level(TWO, [Level(ONE, [leaf("@.")]), Level(TWO, [leaf("@a"), leaf("@b")])]))

    def test_with_part_of_other_things(self):
        for thing in anything():
            if not isinstance(thing, Level):
                for path in self.paths:
                    wanted_error(self, BadLevel, "value", -1, self.level.with_part, path, thing)

    def test_with_part_of_too_many_rooms(self):
        self.assertEqual(60, self.level.with_part((2, 1), row(55)).rooms)
        self.assertEqual(60, self.level.with_part((), row(60)).rooms)
        self.assertEqual(60, self.level.with_part((2,), row(57)).rooms)
        wanted_error(self, TooMany, None, None, self.level.with_part, (2, 1), row(56))
        wanted_error(self, TooMany, None, None, self.level.with_part, (1,), row(57))
        self.assertTrue(row(60).with_part((1,) * 59, leaf("@")).part((1,) * 59) == leaf("@"))
        wanted_error(self, TooMany, None, None, row(60).with_part, (1,) * 59, row(2))


class EqualityTest(unittest.TestCase):
    def test_equal_if_made_of_the_same(self):
        self.assertTrue(bush(60) == bush(60))
        self.assertFalse(bush(60) != bush(60))
        self.assertTrue(row(60) == row(60))

    def test_unequal_if_a_room_is_another_one(self):
        self.assertFalse(leaf("@") == leaf("@."))
        self.assertFalse(Level(TWO, [leaf("@"), leaf()]) == Level(TWO, [leaf(), leaf("@")]))
        self.assertFalse(Level(ONE, [leaf()]) == Level(Room(["1@"]), [leaf()]))
        self.assertTrue(row(60) != row(60).with_part((1,) * 59, leaf("@.*")))
        self.assertTrue(row(5) != row(6))

    def test_unequal_to_everything_else(self):
        for thing in anything():
            if not isinstance(thing, Level):
                self.assertFalse(leaf() == thing)
                self.assertTrue(leaf() != thing)


class RowTest(unittest.TestCase):
    def test_rows(self):
        self.assertTrue(row_of(ONE, leaf("@"), 0) == leaf("@"))
        self.assertTrue(row_of(ONE, leaf("@"), 1) == Level(ONE, [leaf("@")]))
        self.assertTrue(row_of(ONE, leaf(), 2) == row(3))
        self.assertTrue(row_of(ONE, leaf(), 59) == row(60))
        self.assertTrue(row_of(ONE, row(57), 3) == row(60))
        end = Level(TWO, [leaf(), row(2)])
        self.assertTrue(row_of(ONE, end, 2) == Level(ONE, [Level(ONE, [end])]))
        self.assertEqual((6, 5), (row_of(ONE, end, 2).rooms, row_of(ONE, end, 2).depth))

    def test_rooms_without_just_one_mouth(self):
        for thing in anything() + [LEAF, TWO]:
            if not isinstance(thing, Room) or thing.mouths != 1:
                wanted_error(self, BadRoom, "value", thing, row_of, thing, None, None)

    def test_wrong_ends(self):
        for thing in anything():
            if not isinstance(thing, Level):
                wanted_error(self, BadLevel, "value", thing, row_of, ONE, thing, None)

    def test_wrong_numbers(self):
        for thing in anything():
            if not is_whole(thing) or not 0 <= thing <= 59:
                wanted_error(self, BadCount, "value", thing, row_of, ONE, leaf(), thing)
                wanted_error(self, BadCount, "value", thing, row_of, ONE, row(60), thing)

    def test_too_many_rooms(self):
        wanted_error(self, TooMany, None, None, row_of, ONE, row(2), 59)
        wanted_error(self, TooMany, None, None, row_of, ONE, row(60), 1)
        wanted_error(self, TooMany, None, None, row_of, ONE, row(60), 59)
        self.assertEqual(60, row_of(ONE, row(60), 0).rooms)
        self.assertEqual(60, row_of(ONE, row(2), 58).rooms)


if __name__ == "__main__":
    unittest.main()
