import itertools
import random
import unittest

from anything import anything, wanted_error
from naive import random_room
from roomsthrough.errors import BadCount, BadDerivation, BadGrammar, BadName
from roomsthrough.grammars import Grammar, derivations, is_made, joined, level_of
from roomsthrough.levels import Level, row_of
from roomsthrough.rooms import Room

LEAF, LINE, FORK = Room(["@*"]), Room(["@1"]), Room(["1@2"])
END = ("s", LEAF, ())
ROW = Grammar([("s", LINE, ("s",)), END], "s")
TREE = Grammar([("s", FORK, ("s", "t")), END, ("t", LINE, ("s",)), ("t", Room(["@"]), ()), ("s", LINE, ("t",))], "s")


def random_grammar(chance, most=5, names=("s", "t", "u"), cells=6, marks="...abAB*^<"):
    rows = []
    for _ in range(chance.randint(1, most)):
        mouths = chance.choice((0, 0, 1, 1, 2))
        inner = tuple(chance.choice(names) for _ in range(mouths))
        rows.append((chance.choice(names), random_room(chance, mouths, cells, marks), inner))
    return Grammar(rows, chance.choice(names))


def listing(grammar, most):
    """For each name the list of all derivations with at most so many rooms, as tuples (rooms, derivation), in order."""
    found = {name: [] for name in grammar.names()}
    for rooms in range(1, most + 1):
        new = {name: [] for name in found}
        for index, (name, _, names) in enumerate(grammar.rows):
            for parts in itertools.product(*[found[inner] for inner in names]):
                if 1 + sum(many for many, _ in parts) == rooms:
                    new[name].append((rooms, (index, tuple(tree for _, tree in parts))))
        for name in found:
            found[name] += sorted(new[name])
    return found


def chain(number, last=1):
    """The derivation of ROW with so many rooms ahead of the end."""
    made = (last, ())
    for _ in range(number):
        made = (0, (made,))
    return made


class GrammarTest(unittest.TestCase):
    def test_what_it_keeps(self):
        rows = [("s", FORK, ("x", "y")), ("s", LEAF, ()), ("abcdefgh", LINE, ("s",))]
        for row in (rows, tuple(rows)):
            grammar = Grammar(row, "z")
            self.assertIsInstance(grammar.rows, tuple)
            self.assertTrue(grammar.rows == tuple(rows))
            self.assertEqual("z", grammar.start)
            self.assertEqual(["abcdefgh", "s", "x", "y", "z"], grammar.names())
        grammar = Grammar(rows, "s")
        rows.clear()
        grammar.names().clear()
        self.assertEqual(3, len(grammar.rows))
        self.assertEqual(["abcdefgh", "s", "x", "y"], grammar.names())

    def test_equality(self):
        self.assertTrue(ROW == Grammar((("s", Room(["@1"]), ("s",)), ("s", Room(["@*"]), ())), "s"))
        self.assertFalse(ROW != Grammar([("s", LINE, ("s",)), END], "s"))
        others = [Grammar([END, ("s", LINE, ("s",))], "s"), Grammar([("s", LINE, ("s",)), END], "t"),
                  Grammar([("s", LINE, ("t",)), END], "s"), Grammar([("s", Room(["1@"]), ("s",)), END], "s"), TREE,
                  Grammar([("s", LINE, ("s",)), ("t", LEAF, ())], "s"), Grammar([("s", LINE, ("s",))], "s")]
        for other in others + [thing for thing in anything()]:
            self.assertIs(False, ROW == other)

    def test_one_ten_and_eleven_productions(self):
        for row in ([END], [END] * 10, (END,) * 10):
            self.assertEqual(len(row), len(Grammar(row, "s").rows))
        for row in ([], (), [END] * 11, (END,) * 11, [None] * 11, {0: END}, {END[0]: 1}, "s", None, END[0], 5, iter([END])):
            wanted_error(self, BadGrammar, "value", -1, Grammar, row, None)

    def test_rows_of_any_kind(self):
        for thing in anything():
            if not isinstance(thing, (list, tuple)) or not 1 <= len(thing) <= 10:
                wanted_error(self, BadGrammar, "value", -1, Grammar, thing, "s")
            elif thing != [("s", LINE, ("s",))]:
                wanted_error(self, BadGrammar, "value", 0, Grammar, thing, "s")

    def test_each_thing_that_is_no_production_at_each_place(self):
        wrong = [thing for thing in anything() if thing != ("s", LEAF, ()) and thing != ("s", Room(["@"]), ())]
        wrong += [
            ["s", LEAF, ()], ("s", LEAF, []), ("s", LEAF, None), ("s", LEAF), ("s", LEAF, (), ()), ("s", LEAF, ("s",)),
            ("s", LINE, ()), ("s", LINE, ("s", "s")), ("s", FORK, ("s",)), ("s", FORK, ("s", "s", "s")),
            ("s", LINE, "s"), ("s", LINE, ["s"]), ("s", LINE, ("",)), ("s", LINE, ("S",)), ("s", LINE, (None,)),
            ("s", LINE, (("s",),)), ("s", FORK, ("s", "abcdefghi")), ("s", FORK, ("s1", "s")), ("", LEAF, ()),
            ("abcdefghi", LEAF, ()), ("S", LEAF, ()), ("s ", LEAF, ()), ("\u00e4", LEAF, ()), ("s1", LEAF, ()),
            ("s\n", LEAF, ()), (b"s", LEAF, ()), (None, LEAF, ()), (("s",), LEAF, ()), ("s", ["@*"], ()), ("s", None, ()),
            ("s", Level(LEAF), ()), (LEAF, "s", ()), ("`", LEAF, ()), ("{", LEAF, ()), ("\u0131", LEAF, ()),
        ]
        for thing in wrong:
            for at in (0, 1, 3, 9):
                rows = [END] * 10
                rows[at] = thing
                wanted_error(self, BadGrammar, "value", at, Grammar, rows, None)
        wanted_error(self, BadGrammar, "value", 1, Grammar, [END, None, END, None], "s")

    def test_starts(self):
        for start in anything() + ["", "S", "s1", "abcdefghi", ["s"], ("s",), b"s", " s", "\u00df"]:
            if start not in ("a", "u", "star", "stars", "solved"):
                for many in (1, 4, 10):
                    wanted_error(self, BadGrammar, "value", many, Grammar, [END] * many, start)
        for start in ("a", "z", "abcdefgh"):
            self.assertEqual(sorted({start, "s"}), Grammar([END], start).names())

    def test_five_and_six_names(self):
        rows = [("a", FORK, ("b", "c")), ("d", LINE, ("e",))]
        self.assertEqual(5, len(Grammar(rows, "a").names()))
        self.assertEqual(5, len(Grammar(rows + [("e", LEAF, ()), ("b", LINE, ("b",))], "c").names()))
        wanted_error(self, BadGrammar, "value", -1, Grammar, rows, "f")
        wanted_error(self, BadGrammar, "value", -1, Grammar, rows + [("f", LEAF, ())], "a")
        wanted_error(self, BadGrammar, "value", -1, Grammar, rows + [("a", LINE, ("f",))], "a")
        wanted_error(self, BadGrammar, "value", 3, Grammar, rows + [("f", LEAF, ())], "F")
        wanted_error(self, BadGrammar, "value", 3, Grammar, rows + [("f", LEAF, ()), None], "F")


class JoinedTest(unittest.TestCase):
    def test_the_productions_of_both(self):
        both = joined(ROW, TREE, "t")
        self.assertTrue(both == Grammar(ROW.rows + TREE.rows, "t"))
        self.assertFalse(both == joined(TREE, ROW, "t"))
        self.assertEqual(2, len(ROW.rows))

    def test_what_one_makes_the_joined_one_makes(self):
        chance = random.Random(121)
        for _ in range(60):
            one, other = random_grammar(chance), random_grammar(chance)
            both = joined(one, other, chance.choice(one.names()))
            for name in one.names():
                for made in itertools.islice(derivations(one, name, 5), 40):
                    self.assertTrue(is_made(both, name, made))
                    self.assertTrue(level_of(both, made) == level_of(one, made))

    def test_errors(self):
        for thing in anything():
            if not isinstance(thing, Grammar):
                wanted_error(self, BadGrammar, "value", thing, joined, thing, None, None)
                wanted_error(self, BadGrammar, "value", thing, joined, ROW, thing, None)
            if thing not in ("a", "u", "star", "stars", "solved"):
                wanted_error(self, BadGrammar, "value", 4, joined, ROW, ROW, thing)
        ten, one = Grammar([END] * 10, "s"), Grammar([END], "s")
        wanted_error(self, BadGrammar, "value", -1, joined, ten, one, None)
        wanted_error(self, BadGrammar, "value", -1, joined, one, ten, None)
        self.assertEqual(10, len(joined(Grammar([END] * 4, "s"), Grammar([END] * 6, "s"), "s").rows))
        many = Grammar([("a", FORK, ("b", "c")), ("d", LINE, ("e",))], "a")
        wanted_error(self, BadGrammar, "value", -1, joined, many, one, "s")
        wanted_error(self, BadGrammar, "value", -1, joined, many, many, "s")
        self.assertEqual(5, len(joined(many, many, "b").names()))


class LevelOfTest(unittest.TestCase):
    def test_by_hand(self):
        self.assertTrue(level_of(ROW, (1, ())) == Level(LEAF))
        self.assertTrue(level_of(ROW, chain(2)) == row_of(LINE, Level(LEAF), 2))
        made = (0, ((1, ()), (2, ((1, ()),))))
        wanted = Level(FORK, [Level(LEAF), Level(LINE, [Level(LEAF)])])
        self.assertTrue(level_of(TREE, made) == wanted)
        self.assertTrue(level_of(TREE, made[1][1]) == wanted.part((2,)))

    def test_sixty_and_sixty_one_rooms(self):
        self.assertEqual(60, level_of(ROW, chain(59)).rooms)
        for number in (60, 61, 500, 30000):
            made = chain(number)
            wanted_error(self, BadDerivation, None, None, level_of, ROW, made)
        huge = (1, ())
        for _ in range(100):
            huge = (0, (huge, (2, (huge,))))
        wanted_error(self, BadDerivation, "value", huge, level_of, TREE, huge)
        wide = (1, ())
        for _ in range(29):
            wide = (0, (wide, (2, ((1, ()),))))
        self.assertEqual(88, 1 + 29 * 3)
        wanted_error(self, BadDerivation, "value", wide, level_of, TREE, wide)

    def test_things_of_any_kind(self):
        for thing in anything():
            if thing != chain(1):
                wanted_error(self, BadDerivation, "value", thing, level_of, ROW, thing)
        for thing in WRONG:
            wanted_error(self, BadDerivation, "value", thing, level_of, ROW, thing)


WRONG = [
    (0, ()), (1, ((1, ()),)), (2, ()), (-1, ()), (True, ()), (False, ((1, ()),)), (1, []), [1, ()], (1, (), ()), (1,), (),
    (0, [(1, ())]), (0, ([1, ()],)), (0, ((True, ()),)), (0, ((0, ()),)), (0, ((1, ()), (1, ()))), (None, ()),
    ("1", ()), (0, (None,)), (10 ** 30, ()), (-(10 ** 30), ()), (0, (1, ())), (0, ((1, ((1, ()),)),)), (1, None),
    (0, ((0, ((0, ((False, ((1, ()),)),)),)),)), (1, ""), (1, {}), {1: ()}, "(1, ())",
]


class IsMadeTest(unittest.TestCase):
    def test_by_hand(self):
        self.assertIs(True, is_made(ROW, "s", (1, ())))
        self.assertIs(True, is_made(ROW, "s", chain(3)))
        self.assertIs(True, is_made(TREE, "t", (3, ())))
        self.assertIs(False, is_made(TREE, "s", (3, ())))
        self.assertIs(False, is_made(TREE, "t", (1, ())))
        self.assertIs(True, is_made(TREE, "s", (0, ((1, ()), (3, ())))))
        self.assertIs(False, is_made(TREE, "s", (0, ((3, ()), (1, ())))))

    def test_things_of_any_kind(self):
        for thing in anything():
            self.assertIs(thing == chain(1), is_made(ROW, "s", thing))
            self.assertIs(thing == chain(1), is_made(ROW, "s", (0, (thing,))))
        for thing in WRONG:
            self.assertIs(False, is_made(ROW, "s", thing))
            self.assertIs(False, is_made(ROW, "s", (0, (thing,))))

    def test_names_of_any_kind(self):
        for name in anything() + ["t", "S", "", b"s", ["s"], ("s",)]:
            self.assertIs(False, is_made(ROW, name, (1, ())))
            self.assertIs(False, is_made(ROW, name, None))
        self.assertIs(False, is_made(Grammar([END], "t"), "t", (0, ())))

    def test_as_deep_as_it_is(self):
        for number in (60, 61, 400, 900, 50000):
            self.assertIs(True, is_made(ROW, "s", chain(number)))
            self.assertIs(False, is_made(ROW, "s", chain(number, 0)))
            self.assertIs(False, is_made(ROW, "s", chain(number, True)))
            self.assertIs(False, is_made(ROW, "t", chain(number)))

    def test_against_the_listing(self):
        chance = random.Random(122)
        for _ in range(80):
            grammar = random_grammar(chance)
            listed = {name: [made for _, made in row][:60] for name, row in listing(grammar, 5).items()}
            for name in listed:
                for other in listed:
                    for made in listed[other]:
                        self.assertIs(name == other, is_made(grammar, name, made))


class DerivationsTest(unittest.TestCase):
    def test_by_hand(self):
        self.assertEqual([chain(0), chain(1), chain(2)], list(derivations(ROW, "s", 3)))
        self.assertEqual([(1, ()), (4, ((3, ()),))], list(derivations(TREE, "s", 2)))
        wanted = [(3, ()), (2, ((1, ()),)), (2, ((0, ((1, ()), (3, ()))),))]
        self.assertEqual(wanted[:2] + [(2, ((4, ((3, ()),)),))], list(derivations(TREE, "t", 3)))

    def test_it_is_a_generator(self):
        found = derivations(TREE, "s", 30)
        self.assertIs(found, iter(found))
        self.assertEqual((1, ()), next(found))
        self.assertEqual([], list(derivations(TREE, "s", 0)))
        self.assertEqual([], list(derivations(Grammar([("s", LINE, ("s",))], "s"), "s", 30)))
        self.assertEqual([], list(derivations(Grammar([END], "t"), "t", 30)))
        self.assertEqual([(0, ())], list(derivations(Grammar([END, ("s", LINE, ("t",))], "s"), "s", 30)))

    def test_against_the_listing(self):
        chance = random.Random(123)
        longest = 0
        for number in range(200):
            grammar = random_grammar(chance, 6)
            most = 1 + number % 6
            listed = listing(grammar, most)
            for name in grammar.names():
                wanted = [made for _, made in listed[name]]
                longest = max(longest, len(wanted))
                self.assertEqual(wanted, list(derivations(grammar, name, most)))
        self.assertGreater(longest, 50)
        for name in ("s", "t"):
            self.assertEqual([made for _, made in listing(TREE, 11)[name]], list(derivations(TREE, name, 11)))

    def test_trees_of_two_kinds_of_forks(self):
        grammar = Grammar([("s", FORK, ("s", "t")), ("t", FORK, ("t", "s")), END, ("t", LEAF, ()), ("t", LINE, ("u",)),
                           ("u", LINE, ("u",)), ("u", FORK, ("s", "s"))], "s")
        for name in grammar.names():
            self.assertEqual([made for _, made in listing(grammar, 9)[name]], list(derivations(grammar, name, 9)))

    def test_long_chains(self):
        self.assertEqual([chain(number) for number in range(30)], list(derivations(ROW, "s", 30)))
        ring = Grammar([("a", LINE, ("b",)), ("b", LINE, ("c",)), ("c", LINE, ("a",)), ("c", LEAF, ())], "a")
        self.assertEqual(10, len(list(derivations(ring, "a", 30))))
        self.assertEqual([3, 6, 9, 12], [level_of(ring, made).rooms for made in derivations(ring, "a", 14)])

    def test_large_bounds_are_listed_one_by_one(self):
        seen = list(itertools.islice(derivations(TREE, "s", 30), 3000))
        self.assertEqual(3000, len(set(seen)))
        order = [(level_of(TREE, made).rooms, made) for made in seen]
        self.assertEqual(sorted(order), order)
        only = Grammar([("s", FORK, ("s", "n")), ("s", FORK, ("s", "s")), END, ("n", LINE, ("n",))], "s")
        self.assertEqual([1, 3, 5, 5], [level_of(only, made).rooms for made in itertools.islice(derivations(only, "s", 30), 4)])

    def test_errors(self):
        def first(*arguments):
            return next(derivations(*arguments), None)

        for thing in anything() + ["t", ["s"], ("s",)]:
            wanted_error(self, BadName, "value", thing, first, ROW, thing, None)
        for thing in anything() + [31, -1, 30.0, "3", [3], (3,), True]:
            if isinstance(thing, bool) or not isinstance(thing, int) or not 0 <= thing <= 30:
                wanted_error(self, BadCount, "value", thing, first, ROW, "s", thing)
        for thing in anything():
            if not isinstance(thing, Grammar):
                wanted_error(self, BadGrammar, "value", thing, first, thing, None, None)
                wanted_error(self, BadGrammar, "value", thing, is_made, thing, None, None)
                wanted_error(self, BadGrammar, "value", thing, level_of, thing, None)
        self.assertIsNone(first(ROW, "s", 0))
        self.assertEqual((1, ()), first(ROW, "s", 30))


if __name__ == "__main__":
    unittest.main()
