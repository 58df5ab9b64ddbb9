import itertools
import random
import unittest

from anything import anything, wanted_error
from naive import ALL_RULES
from roomsthrough.errors import BadFull, BadGrammar, BadName, BadRules, TooMany
from roomsthrough.fulls import Full, full, full_of
from roomsthrough.grammars import Grammar, derivations, is_made, level_of
from roomsthrough.levels import Level, row_of
from roomsthrough.reaching import least_of, reached
from roomsthrough.rooms import Room
from roomsthrough.rules import Rules
from roomsthrough.tables import Table, none, same
from test_grammars import END, FORK, LEAF, LINE, ROW, TREE, chain, random_grammar
from test_middle import DOOR_ROOM, FULL_ROOM, LARGE_ROOM, MOUTH_ROOM

RULES = Rules()
# Each level of "a" that gives two keys is made of 16 levels of "e" with two keys, and each of these has three rooms.
LOOP = Room(["@>1A", "^##A", ".<.2"])
DOUBLE = Grammar([
    ("e", Room(["@"]), ()), ("e", Room(["1@a"]), ("e",)), ("d", LOOP, ("e", "e")), ("c", LOOP, ("d", "d")),
    ("b", LOOP, ("c", "c")), ("a", LOOP, ("b", "b")),
], "a")
# How many fulls are reached under rules with cap 2, by a count without a bound: just 300, just 301.
FULLEST = Grammar([
    ("s", Room(["@1", "<A", "><"]), ("s",)), ("s", Room(["@A1"]), ("s",)), ("s", Room([">@b1.*"]), ("s",)),
    ("s", Room(["@"]), ()), ("t", Room(["@B1.*"]), ("s",)), ("u", Room(["B^", ">1", "a*", "a@"]), ("s",)),
    ("v", Room(["@", "1", "."]), ("s",)), ("w", Room(["1", "@"]), ("s",)),
], "s")
MANY = Grammar([
    ("s", Room(["1@>"]), ("s",)), ("s", Room(["A1A@"]), ("s",)), ("s", Room(["aa@B"]), ()), ("s", Room(["1@ab"]), ("s",)),
    ("t", Room(["1@"]), ("s",)), ("u", Room(["1", "@", "<"]), ("s",)),
], "s")


def rooms_in(derivation):
    many, todo = 0, [derivation]
    while todo:
        many += 1
        todo.extend(todo.pop()[1])
    return many


def place_in(row, one):
    return [at for at, other in enumerate(row) if other == one]


def listed_fulls(grammar, rules, name, most, bound=400):
    """The tuples (full, least derivation) of the levels of small derivations; None if they are too many."""
    found = []
    for many, made in enumerate(derivations(grammar, name, most)):
        if many > bound:
            return None
        one = full(level_of(grammar, made), rules)
        if not any(one == other for other, _ in found):
            found.append((one, made))
    return found


class ReachedTest(unittest.TestCase):
    def test_by_hand(self):
        found = reached(ROW, RULES)
        self.assertEqual(["s"], list(found))
        self.assertTrue(found["s"][0] == full(Level(LEAF), RULES))
        self.assertTrue(all(isinstance(one, Full) for one in found["s"]))
        ring = Grammar([("s", Room(["@b1"]), ("t",)), ("t", Room(["1@a"]), ("s",)), ("t", Room(["@"]), ())], "s")
        found = reached(ring, RULES)
        self.assertEqual(["s", "t"], list(found))
        self.assertTrue(found["t"][0] == full(Level(Room(["@"])), RULES))
        self.assertTrue(found["s"][0] == full(Level(Room(["@b1"]), [Level(Room(["@"]))]), RULES))

    def test_names_that_make_nothing(self):
        grammar = Grammar([END, ("t", LINE, ("u",)), ("u", LINE, ("t",)), ("s", FORK, ("s", "v"))], "w")
        found = reached(grammar, RULES)
        self.assertEqual(["s", "t", "u", "v", "w"], list(found))
        self.assertEqual([1, 0, 0, 0, 0], [len(row) for row in found.values()])

    def test_against_the_levels_of_small_derivations(self):
        chance = random.Random(131)
        compared = later = 0
        for number in range(120):
            rules = ALL_RULES[number % 8]
            grammar = random_grammar(chance, 5)
            try:
                found = reached(grammar, rules)
            except TooMany:
                continue
            for name in grammar.names():
                wanted = listed_fulls(grammar, rules, name, 6)
                if wanted is None:
                    continue
                compared += 1
                self.assertLessEqual(len(wanted), len(found[name]))
                later += len(found[name]) > len(wanted)
                for (one, made), other in zip(wanted, found[name]):
                    self.assertTrue(one == other)
                for one, made in wanted[:3] + wanted[-2:]:
                    self.assertEqual(made, least_of(grammar, rules, name, one))
        self.assertGreater(compared, 150)
        self.assertGreater(later, 2)

    def test_it_is_closed_and_in_order(self):
        chance = random.Random(132)
        for number in range(30):
            rules = ALL_RULES[number % 8]
            grammar = random_grammar(chance, 6, ("s", "t"))
            try:
                found = reached(grammar, rules)
            except TooMany:
                continue
            if max(map(len, found.values())) > 12:
                continue
            for name, room, names in grammar.rows:
                for fulls in itertools.product(*[found[inner] for inner in names]):
                    self.assertEqual(1, len(place_in(found[name], full_of(room, rules, list(fulls)))))
            for name in grammar.names():
                least = [least_of(grammar, rules, name, one) for one in found[name]]
                order = [(rooms_in(made), made) for made in least]
                self.assertEqual(sorted(order), order)
                for one, (rooms, made) in zip(found[name], order):
                    self.assertTrue(is_made(grammar, name, made))
                    if rooms <= 60:
                        self.assertTrue(one == full(level_of(grammar, made), rules))

    def test_the_first_of_equally_large_ones(self):
        grammar = Grammar([("s", Room(["@."]), ()), ("s", Room(["@*"]), ()), ("s", Room(["*@"]), ()), ("s", Room(["@"]), ()),
                           ("s", Room(["*@1"]), ("s",))], "s")
        found = reached(grammar, RULES)["s"]
        self.assertEqual((0, ()), least_of(grammar, RULES, "s", full(Level(Room(["@"])), RULES)))
        self.assertEqual((1, ()), least_of(grammar, RULES, "s", full(Level(Room(["*@"])), RULES)))
        self.assertEqual(2, len(found))

    def test_trees_are_compared_by_their_parts_and_not_by_their_sizes(self):
        """Both keys can be had with the smaller part first or with the larger one, whose production stands ahead."""
        grammar = Grammar([("s", FORK, ("t", "t")), ("t", Room(["1@b"]), ("u",)), ("t", Room(["@a"]), ()),
                           ("u", Room(["@"]), ())], "s")
        both = [one for one in reached(grammar, RULES)["s"] if (1, 1) in one.base.outcomes((0, 0))]
        self.assertEqual(1, len(both))
        self.assertEqual((0, ((1, ((3, ()),)), (2, ()))), least_of(grammar, RULES, "s", both[0]))

    def test_forks_whose_parts_can_be_exchanged(self):
        chance = random.Random(133)
        exchanged = 0
        for number in range(60):
            rules = ALL_RULES[number % 8]
            rows = list(random_grammar(chance, 5, ("t", "u")).rows)
            rows.insert(chance.randrange(len(rows) + 1), ("s", FORK, ("t", "t")))
            grammar = Grammar(rows + [("s", FORK, ("u", "t")), ("s", FORK, ("t", "u"))], "s")
            try:
                found = reached(grammar, rules)["s"]
            except TooMany:
                continue
            wanted = listed_fulls(grammar, rules, "s", 7, 250)
            if wanted is None or len(found) > 20:
                continue
            for (one, made), other in zip(wanted, found):
                self.assertTrue(one == other)
                self.assertEqual(made, least_of(grammar, rules, "s", one))
                exchanged += rooms_in(made[1][0]) > rooms_in(made[1][1])
        self.assertGreater(exchanged, 15)

    def test_more_rooms_than_a_level_can_have(self):
        rules = Rules(2)
        found = reached(DOUBLE, rules)["a"]
        least = [least_of(DOUBLE, rules, "a", one) for one in found]
        self.assertEqual([31, 46, 46, 62, 62, 63], [rooms_in(made) for made in least])
        keys = [one for one in found if (2, 0) in one.base.outcomes((0, 0))]
        self.assertTrue(keys[0] == found[-1])
        self.assertTrue(all(is_made(DOUBLE, "a", made) for made in least))
        again = found[-1]
        three = row_of(Room(["1@a"]), Level(Room(["@"])), 2)
        one = full(three, rules)
        for _ in range(4):
            one = full_of(LOOP, rules, [one, one])
        self.assertTrue(one == again)

    def test_long_rows(self):
        wanted = []
        for number in range(60):
            one = full(row_of(Room(["@.1", "a#."]), Level(Room(["@A*"])), number), Rules(2))
            if not any(one == other for other in wanted):
                wanted.append(one)
        grammar = Grammar([("s", Room(["@.1", "a#."]), ("s",)), ("s", Room(["@A*"]), ())], "s")
        found = reached(grammar, Rules(2))["s"]
        self.assertEqual(len(wanted), len(found))
        self.assertTrue(all(one == other for one, other in zip(wanted, found)))
        for at, one in enumerate(found):
            self.assertEqual(chain(at), least_of(grammar, Rules(2), "s", one))

    def test_children_exchanged(self):
        """A production whose names reach the same fulls reaches the same fulls."""
        one = Grammar([("s", Room(["@.1a"]), ("t",)), ("t", Room(["@A"]), ())], "s")
        two = Grammar([("s", Room(["@.1a"]), ("t",)), ("t", Room(["..", "A@"]), ())], "s")
        found, other = reached(one, RULES)["s"], reached(two, RULES)["s"]
        self.assertTrue(len(found) == len(other) == 1 and found[0] == other[0])

    def test_one_room_that_is_searched_for_many_fulls(self):
        """The first room is never too large, the second one with none of these fulls, the third one with some."""
        one = [["@.1.", "a..o", "2A.."], ["A@bb"], [".", "B", "@"], ["b.@", "B*b"], ["a@aA<a"], ["1@"]]
        two = [[".@..a", "a....", "b1.a2"], [".B@", ".a*"], ["a..@bb"], ["@A<"], ["@", "1"]]
        three = [["A.....", "1..2..", "......", "..@A.B"], ["@"], ["*@<."], ["<.@"], ["BaB", "A@*"], ["A", "@", "<", "1"]]
        for rules, rooms, large in ((Rules(1, True), one, False), (Rules(2, True), two, False), (Rules(2, True), three, True)):
            rooms = [Room(rows) for rows in rooms]
            inner = [("t", room, ("t",) * room.mouths) for room in rooms[1:]]
            found = reached(Grammar(inner, "t"), rules)["t"]
            self.assertGreater(len(found) ** 2 * len(rules.bags()), 200)
            wanted = []
            for fulls in itertools.product(found, repeat=2):
                try:
                    wanted.append(full_of(rooms[0], rules, fulls))
                except TooMany:
                    wanted.append(None)
            grammar = Grammar([("s", rooms[0], ("t", "t")), *inner], "s")
            if large:
                self.assertGreater(len(wanted), wanted.count(None))
                wanted_error(self, TooMany, None, None, reached, grammar, rules)
                continue
            again = reached(grammar, rules)
            self.assertTrue(again["t"] == found)
            self.assertTrue(all(len(place_in(again["s"], one)) == 1 for one in wanted))
            self.assertTrue(all(one in wanted for one in again["s"]))

    def test_what_is_returned_is_new_each_time(self):
        reached(TREE, RULES)["s"].clear()
        reached(TREE, RULES).clear()
        self.assertEqual(["s", "t"], list(reached(TREE, RULES)))
        self.assertGreater(len(reached(TREE, RULES)["s"]), 0)
        self.assertIsInstance(reached(TREE, RULES)["s"], list)


class ErrorTest(unittest.TestCase):
    def test_in_their_order(self):
        large = Grammar([("s", LARGE_ROOM, ())], "s")
        for thing in anything():
            if not isinstance(thing, Grammar):
                wanted_error(self, BadGrammar, "value", thing, reached, thing, None)
                wanted_error(self, BadGrammar, "value", thing, least_of, thing, None, None, None)
            if not isinstance(thing, Rules):
                wanted_error(self, BadRules, "value", thing, reached, large, thing)
                wanted_error(self, BadRules, "value", thing, least_of, large, thing, None, None)
            wanted_error(self, BadName, "value", thing, least_of, large, RULES, thing, None)
            if not isinstance(thing, Full):
                wanted_error(self, BadFull, "value", thing, least_of, large, RULES, "s", thing)

    def test_fulls_that_are_not_reached(self):
        wrong = [
            full(Level(Room(["@"])), RULES), full(Level(LEAF), Rules(2)), full(Level(LEAF), Rules(1, True)),
            Full(same(RULES), {bag: [()] for bag in RULES.bags()}),
        ]
        for one in wrong:
            wanted_error(self, BadFull, "value", one, least_of, ROW, RULES, "s", one)
        nothing = Grammar([END], "t")
        wanted_error(self, BadFull, "value", wrong[0], least_of, nothing, RULES, "t", wrong[0])
        self.assertEqual((0, ()), least_of(nothing, RULES, "s", full(Level(LEAF), RULES)))
        table = full(Level(LEAF), RULES).base
        one = Full(table, {bag: [("star",)] for bag in RULES.bags()})
        wanted_error(self, BadFull, "value", one, least_of, ROW, RULES, "s", one)
        one = Full(none(RULES), full(Level(LEAF), RULES).weak())
        wanted_error(self, BadFull, "value", one, least_of, ROW, RULES, "s", one)

    def test_rooms_too_large(self):
        one = full(Level(LEAF), RULES)
        for room in (LARGE_ROOM, DOOR_ROOM):
            grammar = Grammar([END, ("t", room, ())], "s")
            wanted_error(self, TooMany, None, None, reached, grammar, RULES)
            wanted_error(self, TooMany, None, None, least_of, grammar, RULES, "s", one)
            wanted_error(self, TooMany, None, None, least_of, grammar, RULES, "s", full(Level(LEAF), Rules(2)))
        self.assertEqual(1, len(reached(Grammar([("s", FULL_ROOM, ())], "s"), RULES)["s"]))

    def test_rooms_too_large_in_productions_that_are_never_used(self):
        large = Room(["@....1", ".o..o.", "....o.", "......"])
        unused = Grammar([END, ("s", large, ("t",)), ("t", LINE, ("t",))], "s")
        self.assertEqual([1, 0], [len(row) for row in reached(unused, RULES).values()])
        used = Grammar([END, ("t", large, ("s",))], "s")
        wanted_error(self, TooMany, None, None, reached, used, RULES)
        wanted_error(self, TooMany, None, None, reached, Grammar([END, ("s", large, ("s",))], "s"), RULES)

    def test_rooms_too_large_with_some_fulls_alone(self):
        """Whoever comes back out of the mouth meets too many states, but nobody comes back out of the first one."""
        first = ("t", Room(["@v*"]), ())
        shut = Full(Table(RULES, {bag: [bag] for bag in RULES.bags()}), {bag: [(bag,)] for bag in RULES.bags()})
        wanted_error(self, TooMany, None, None, full_of, MOUTH_ROOM, RULES, [shut])
        wanted_error(self, TooMany, None, None, reached, Grammar([first, ("s", MOUTH_ROOM, ("t",))], "s"), RULES)
        self.assertEqual(0, len(reached(Grammar([first, ("s", MOUTH_ROOM, ("u",))], "s"), RULES)["s"]))

    def test_more_than_three_hundred_fulls(self):
        wanted_error(self, TooMany, None, None, reached, MANY, Rules(2))
        wanted_error(self, TooMany, None, None, least_of, MANY, Rules(2), "s", full(Level(LEAF), Rules(2)))
        wanted_error(self, BadFull, "value", None, least_of, MANY, Rules(2), "s", None)
        self.assertLess(sum(map(len, reached(MANY, Rules(1)).values())), 300)
        without = Grammar(MANY.rows[:-1], "s")
        self.assertLess(max(map(len, reached(without, Rules(2)).values())), 300)

    def test_just_three_hundred_fulls(self):
        found = reached(FULLEST, Rules(2))
        self.assertEqual(300, sum(map(len, found.values())))
        self.assertEqual(["s", "t", "u", "v", "w"], list(found))
        for name in ("s", "u"):
            made = least_of(FULLEST, Rules(2), name, found[name][-1])
            self.assertTrue(is_made(FULLEST, name, made))
            self.assertTrue(full(level_of(FULLEST, made), Rules(2)) == found[name][-1])


if __name__ == "__main__":
    unittest.main()
