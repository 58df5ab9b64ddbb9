import itertools
import random
import unittest

from anything import anything, wanted_error
from naive import ALL_RULES, random_room
from roomsthrough.errors import BadFull, BadGrammar, BadName, BadRules, BadWish, TooMany
from roomsthrough.fulls import Full, full, full_of
from roomsthrough.grammars import Grammar, derivations, is_made, level_of
from roomsthrough.kin import is_parting, kin, parting
from roomsthrough.levels import Level
from roomsthrough.reaching import least_of, reached
from roomsthrough.rooms import Room
from roomsthrough.rules import Rules
from roomsthrough.tables import none
from roomsthrough.wishes import meets
from test_grammars import END, FORK, LEAF, LINE, ROW, TREE, chain, random_grammar
from test_middle import DOOR_ROOM, LARGE_ROOM
from test_reaching import DOUBLE, MANY, rooms_in
from test_verdicts import ANY, KEYS, NONE, NOTHING, SOLVED
from test_wishes import random_wish

RULES = Rules()
STARS = "...aAb*v"
# From inside out: the key is carried through any number of rooms, and needed in the last one alone.
CARRIED = Grammar([
    ("s", Room(["@1"]), ("t",)), ("t", Room(["1@2"]), ("u", "k")), ("u", Room(["@A*"]), ()), ("k", Room(["@a"]), ()),
    ("k", Room(["@b"]), ()), ("k", Room(["@"]), ()), ("t", Room(["@.1"]), ("t",)),
], "s")


# Names and the names behind their mouths: what is made of "v" is far within.
FAR = [("v", ""), ("v", ""), ("v", "v"), ("v", ""), ("u", "v"), ("u", "vv"), ("t", "u"), ("s", "t"), ("s", "tv")]


def place_of(row, one):
    (at,) = [at for at, other in enumerate(row) if other == one]
    return at


def moves_of(grammar, rules, found):
    """The tuples (index, numbers of the children, number of what is made), where each name numbers its own fulls."""
    moves = []
    for index, (name, room, names) in enumerate(grammar.rows):
        for row in itertools.product(*[range(len(found[inner])) for inner in names]):
            made = full_of(room, rules, [found[inner][at] for inner, at in zip(names, row)])
            moves.append((index, row, place_of(found[name], made)))
    return moves


def distances(grammar, rules, wish, found):
    """For each name the dict from pairs of numbers to how many tuples a context needs to part them."""
    moves = moves_of(grammar, rules, found)
    made = {(index, row): number for index, row, number in moves}
    told = {name: {} for name in found}
    good = [meets(one, wish) for one in found[grammar.start]]
    for one, two in itertools.product(range(len(good)), repeat=2):
        if good[one] != good[two]:
            told[grammar.start][(one, two)] = 0
    deep = 0
    while True:
        more = []
        for index, row, number in moves:
            for place, inner in enumerate(grammar.rows[index][2]):
                for other in range(len(found[inner])):
                    behind = made[(index, row[:place] + (other,) + row[place + 1:])]
                    if (number, behind) in told[grammar.rows[index][0]] and (row[place], other) not in told[inner]:
                        more.append((inner, (row[place], other)))
        if not more:
            return told
        deep += 1
        for inner, pair in more:
            told[inner][pair] = deep


def filled(context, derivation):
    """The derivation that a context makes around one."""
    for index, place, others in context:
        derivation = (index, others[:place] + (derivation,) + others[place:])
    return derivation


def parts_them(grammar, rules, wish, name, one, other, context):
    """Whether a context parts two fulls, by the levels that it leads to from their least derivations."""
    told = []
    for made in (one, other):
        whole = filled(context, least_of(grammar, rules, name, made))
        if not is_made(grammar, grammar.start, whole) or rooms_in(whole) > 60:
            return None
        told.append(meets(full(level_of(grammar, whole), rules), wish))
    return told[0] != told[1]


def drawn(chance, number, most=7):
    """A grammar with not too many fulls under some rules, and a wish."""
    while True:
        rules = ALL_RULES[number % 8] if number % 4 == 0 else RULES
        grammar = random_grammar(chance, 6, ("s", "t", "u")[:1 + number % 3], 7, STARS)
        if number % 3:
            rows = [(name, random_room(chance, len(inner), 6, STARS), tuple(inner)) for name, inner in FAR]
            grammar = Grammar([rows[at] for at in sorted(chance.sample(range(len(rows)), 7))], "s")
        try:
            found = reached(grammar, rules)
        except TooMany:
            continue
        if max(map(len, found.values())) <= most and sum(map(len, found.values())) > 3:
            return grammar, rules, random_wish(chance, rules), found


class KinTest(unittest.TestCase):
    def test_by_hand(self):
        found = reached(CARRIED, RULES)
        self.assertEqual([1, 1], [len(found["s"]) // len(found["s"]), len(kin(CARRIED, RULES, ANY, "s"))])
        key, other, nothing = found["k"]
        self.assertEqual([[other, nothing], [key]][::-1], kin(CARRIED, RULES, SOLVED, "k"))
        self.assertIsNone(parting(CARRIED, RULES, SOLVED, "k", other, nothing))
        context = parting(CARRIED, RULES, SOLVED, "k", key, nothing)
        self.assertEqual([(1, 1, ((2, ()),)), (0, 0, ())], context)
        self.assertIs(True, is_parting(CARRIED, RULES, SOLVED, "k", key, nothing, context))
        self.assertIs(False, is_parting(CARRIED, RULES, SOLVED, "k", other, nothing, context))
        self.assertIs(True, is_parting(CARRIED, RULES, SOLVED, "k", nothing, key, tuple(context)))
        longer = [context[0], (6, 0, ()), (6, 0, ()), (0, 0, ())]
        self.assertIs(True, is_parting(CARRIED, RULES, SOLVED, "k", key, nothing, longer))

    def test_against_a_refining_of_its_own(self):
        chance = random.Random(321)
        seen = {}
        for number in range(90):
            grammar, rules, wish, found = drawn(chance, number)
            told = distances(grammar, rules, wish, found)
            if not told[grammar.start] and number % 4:
                continue
            for name, row in found.items():
                classes = []
                for at in range(len(row)):
                    for known in classes:
                        if (known[0], at) not in told[name]:
                            known.append(at)
                            break
                    else:
                        classes.append([at])
                got = kin(grammar, rules, wish, name)
                self.assertEqual([[row[at] for at in known] for known in classes], got)
                pairs = list(itertools.product(range(len(row)), repeat=2))
                for one, two in chance.sample(pairs, min(len(pairs), 7)):
                    context = parting(grammar, rules, wish, name, row[one], row[two])
                    wanted = told[name].get((one, two))
                    self.assertEqual(wanted, None if context is None else len(context))
                    seen[wanted] = seen.get(wanted, 0) + 1
                    if context is not None:
                        self.check(grammar, rules, wish, name, row[one], row[two], context)
        self.assertGreater(min(seen[0], seen[1], seen[2]), 9, seen)
        self.assertGreater(len(seen), 3, seen)

    def check(self, grammar, rules, wish, name, one, other, context):
        self.assertIsInstance(context, list)
        for step in context:
            self.assertIsInstance(step, tuple)
        self.assertIs(True, is_parting(grammar, rules, wish, name, one, other, context))
        self.assertIsNot(False, parts_them(grammar, rules, wish, name, one, other, context))

    def test_long_contexts(self):
        """A ring of colours: one key is exchanged for the other in each room, and each name needs one room more."""
        names = ["a", "b", "c", "d", "e"]
        rows = [(name, Room(["1."[::-1] + "@"]), (inner,)) for name, inner in zip(names, names[1:])]
        grammar = Grammar([*rows, ("e", Room(["@a"]), ()), ("e", Room(["@"]), ())], "a")
        wish = ("back", NOTHING, (1, 0))
        for deep, name in enumerate(names):
            row = reached(grammar, RULES)[name]
            self.assertEqual(2, len(row))
            context = parting(grammar, RULES, wish, name, *row)
            self.assertEqual([(at - 1, 0, ()) for at in range(deep, 0, -1)], context)

    def test_one_room_again_and_again(self):
        """How many steps it takes a key to the far end of a chain of rooms that each take one of two away."""
        grammar = Grammar([("s", Room(["A*", "@1"]), ("s",)), ("s", Room(["@"]), ()), ("s", Room(["a", "@"]), ()),
                           ("s", Room(["aa", "@."]), ())], "s")
        rules = Rules(2)
        wish = ("solved", NOTHING)
        told = distances(grammar, rules, wish, reached(grammar, rules))["s"]
        row = reached(grammar, rules)["s"]
        for (one, two), deep in told.items():
            self.assertEqual(deep, len(parting(grammar, rules, wish, "s", row[one], row[two])))

    def test_names_that_do_not_lead_to_the_start(self):
        grammar = Grammar([END, ("t", Room(["@"]), ()), ("t", Room(["@a"]), ()), ("t", LINE, ("s",)), ("u", LINE, ("t",))], "s")
        found = reached(grammar, RULES)
        for name in "tu":
            self.assertEqual([found[name]], kin(grammar, RULES, SOLVED, name))
            for one, two in itertools.product(found[name], repeat=2):
                self.assertIsNone(parting(grammar, RULES, SOLVED, name, one, two))
                self.assertIs(False, is_parting(grammar, RULES, SOLVED, name, one, two, []))
                self.assertIs(False, is_parting(grammar, RULES, SOLVED, name, one, two, [(4, 0, ())]))

    def test_names_that_make_nothing(self):
        grammar = Grammar([END, ("t", LINE, ("u",)), ("s", FORK, ("s", "v"))], "s")
        for name in "tuv":
            self.assertEqual([], kin(grammar, RULES, SOLVED, name))
        self.assertEqual([reached(grammar, RULES)["s"]], kin(grammar, RULES, SOLVED, "s"))
        nothing = Grammar([END], "t")
        self.assertEqual([], kin(nothing, RULES, SOLVED, "t"))
        self.assertEqual([reached(nothing, RULES)["s"]], kin(nothing, RULES, SOLVED, "s"))

    def test_wishes_that_part_nothing(self):
        for grammar in (TREE, KEYS, CARRIED):
            for wish in (ANY, NONE):
                for name, row in reached(grammar, RULES).items():
                    self.assertEqual([row] if row else [], kin(grammar, RULES, wish, name))

    def test_the_empty_context_for_fulls_of_the_start(self):
        for one, two in itertools.product(reached(KEYS, RULES)["s"], repeat=2):
            if meets(one, SOLVED) != meets(two, SOLVED):
                self.assertEqual([], parting(KEYS, RULES, SOLVED, "s", one, two))
            self.assertIs(meets(one, SOLVED) != meets(two, SOLVED), is_parting(KEYS, RULES, SOLVED, "s", one, two, []))
            self.assertIs(meets(one, SOLVED) != meets(two, SOLVED), is_parting(KEYS, RULES, SOLVED, "s", one, two, ()))

    def test_more_rooms_than_a_level_can_have(self):
        rules, wish = Rules(2), ("back", NOTHING, (2, 0))
        found = reached(DOUBLE, rules)
        for name in found:
            for one, two in itertools.combinations(found[name], 2):
                context = parting(DOUBLE, rules, wish, name, one, two)
                if context is not None:
                    self.assertIs(True, is_parting(DOUBLE, rules, wish, name, one, two, context))
        one, two = found["e"][0], [each for each in found["e"] if (1, 0) in each.base.outcomes(NOTHING)][0]
        self.assertEqual(5, len(parting(DOUBLE, rules, wish, "e", one, two)))

    def test_many_fulls(self):
        grammar = Grammar(MANY.rows[:-1], "s")
        rules, wish = Rules(2), ("solved", NOTHING)
        classes = kin(grammar, rules, wish, "s")
        found = reached(grammar, rules)["s"]
        self.assertEqual(len(found), sum(map(len, classes)))
        wish = ("back", NOTHING, (1, 2))
        classes = kin(grammar, rules, wish, "s")
        self.assertGreater(len(classes), 2)
        for one, two in itertools.combinations([row[0] for row in classes[:8]], 2):
            context = parting(grammar, rules, wish, "s", one, two)
            self.assertIs(True, is_parting(grammar, rules, wish, "s", one, two, context))
        for row in classes[:5]:
            self.assertIsNone(parting(grammar, rules, wish, "s", row[0], row[-1]))


class JudgeTest(unittest.TestCase):
    def setUp(self):
        self.found = reached(CARRIED, RULES)
        self.key, self.other, self.nothing = self.found["k"]
        self.context = [(1, 1, ((2, ()),)), (0, 0, ())]

    def judge(self, thing, one=None, other=None):
        return is_parting(CARRIED, RULES, SOLVED, "k", one or self.key, other or self.nothing, thing)

    def test_spoilt_at_one_place(self):
        self.assertIs(True, self.judge(self.context))
        first, last = self.context
        wrong = [
            [], [first], [last], [last, first], [first, first, last], [first, last, last], [first, last, None],
            [(1, 0, ((2, ()),)), last], [(1, 2, ((2, ()),)), last], [(1, -1, ((2, ()),)), last], [(2, 1, ((2, ()),)), last],
            [(1, True, ((2, ()),)), last], [(True, 1, ((2, ()),)), last], [first, (False, 0, ())], [first, (0, False, ())],
            [first, (0, -1, ((1, ((2, ()), (5, ()))),))], [first, (0, None, ())], [first, (None, 0, ())],
            [first, (0, 0, None)], [first, (0, 0, [])], [first, [0, 0, ()]],
            [list(first), last], [(1, 1, [(2, ())]), last], [(1, 1, ([2, ()],)), last], [(1, 1, ((2, []),)), last],
            [(1, 1, ((3, ()),)), last], [(1, 1, ()), last], [(1, 1, ((2, ()), (2, ()))), last], [(1, 1, (2, ())), last],
            [(1, 1, ((True + 1, (None,)),)), last], [(1, 1, ((2, ((2, ()),)),)), last], [(1, 1), last], [(1, 1, ((2, ()),), 0), last],
            [first, (0, 0)], [first, (0, 0, (), ())], [first, (0, 0, ((),))], [first, (0, 1, ())], [first, (-7, 0, ())],
            [first, (7, 0, ())], [first, (10 ** 30, 0, ())], [first, (0, 10 ** 30, ())], [first, (6, 0, ())], {0: first, 1: last},
            {"k": self.context}, "", [self.context], self.context[0], iter(self.context), [None], [[]], [()], [(None, None, None)],
        ]
        for thing in wrong:
            self.assertIs(False, self.judge(thing), thing)
        self.assertIs(False, self.judge(self.context, self.other, self.nothing))
        self.assertIs(False, self.judge(self.context, self.key, self.key))

    def test_things_of_any_kind(self):
        for thing in anything():
            self.assertIs(False, self.judge(thing))
            for at in (0, 1):
                changed = list(self.context)
                changed[at] = thing
                self.assertIs(False, self.judge(changed))
            for at in range(3):
                for step in (0, 1):
                    changed = list(self.context[step])
                    if thing == changed[at] and type(thing) is type(changed[at]):
                        continue
                    changed[at] = thing
                    row = list(self.context)
                    row[step] = tuple(changed)
                    self.assertIs(False, self.judge(row), row)
            self.assertIs(False, self.judge([(1, 1, (thing,)), self.context[1]]))
            self.assertIs(False, self.judge(self.context + [thing]))

    def test_derivations_of_any_depth(self):
        grammar = Grammar([("s", Room(["1@2"]), ("k", "t")), ("t", LINE, ("t",)), ("t", Room(["@"]), ()), ("k", Room(["@a"]), ()),
                           ("k", Room(["@"]), ())], "s")
        wish = ("back", NOTHING, (1, 0))
        key, nothing = reached(grammar, RULES)["k"]
        made = (2, ())
        for deep in range(30001):
            if deep in (0, 1, 50, 1000, 30000):
                self.assertIs(True, is_parting(grammar, RULES, wish, "k", key, nothing, [(0, 0, (made,))]))
                self.assertIs(False, is_parting(grammar, RULES, wish, "k", key, nothing, [(0, 1, (made,))]))
            made = (1, (made,))
        wrong = (2, [])
        for _ in range(30000):
            wrong = (1, (wrong,))
        self.assertIs(False, is_parting(grammar, RULES, wish, "k", key, nothing, [(0, 0, (wrong,))]))

    def test_random_contexts(self):
        """A context is as good as the levels that it leads to."""
        chance = random.Random(322)
        seen = {True: 0, False: 0}
        for number in range(40):
            grammar, rules, wish, found = drawn(chance, number)
            small = {name: list(itertools.islice(derivations(grammar, name, 3), 5)) for name in grammar.names()}
            for _ in range(12):
                name = chance.choice(grammar.names())
                if not found[name]:
                    continue
                one, two = chance.choice(found[name]), chance.choice(found[name])
                context = self.drawn_context(chance, grammar, small, name)
                if context is None:
                    continue
                wanted = parts_them(grammar, rules, wish, name, one, two, context)
                if wanted is not None:
                    seen[wanted] += 1
                    self.assertIs(wanted, is_parting(grammar, rules, wish, name, one, two, context))
                    self.assertIs(wanted, is_parting(grammar, rules, wish, name, two, one, tuple(context)))
        self.assertGreater(min(seen.values()), 5, seen)

    def drawn_context(self, chance, grammar, small, name):
        """A context drawn by chance, from a name to the start; None if none was found soon."""
        context = []
        for _ in range(6):
            if name == grammar.start and chance.random() < 0.6:
                return context
            uses = [(index, place) for index, row in enumerate(grammar.rows) for place, each in enumerate(row[2]) if each == name]
            if not uses:
                return context if name == grammar.start else None
            index, place = chance.choice(uses)
            names = grammar.rows[index][2]
            others = [each for at, each in enumerate(names) if at != place]
            if not all(small[each] for each in others):
                return None
            context.append((index, place, tuple(chance.choice(small[each]) for each in others)))
            name = grammar.rows[index][0]
        return context if name == grammar.start else None

    def test_what_is_passed_stays_and_what_is_returned_is_new(self):
        kept = list(self.context)
        self.judge(self.context)
        self.assertEqual(kept, self.context)
        parting(CARRIED, RULES, SOLVED, "k", self.key, self.nothing).clear()
        self.assertEqual(kept, parting(CARRIED, RULES, SOLVED, "k", self.key, self.nothing))
        classes = kin(CARRIED, RULES, SOLVED, "k")
        classes[0].clear()
        classes.clear()
        self.assertEqual([1, 2], [len(row) for row in kin(CARRIED, RULES, SOLVED, "k")])


class ErrorTest(unittest.TestCase):
    def test_in_their_order(self):
        large = Grammar([("s", LARGE_ROOM, ())], "s")
        one = full(Level(LEAF), RULES)
        for function, many in ((kin, 0), (parting, 2), (is_parting, 3)):
            more = (None,) * many
            for thing in anything():
                if not isinstance(thing, Grammar):
                    wanted_error(self, BadGrammar, "value", thing, function, thing, None, None, None, *more)
                if not isinstance(thing, Rules):
                    wanted_error(self, BadRules, "value", thing, function, large, thing, None, None, *more)
                if thing not in (SOLVED, ("not", ("idle", NOTHING))):
                    wanted_error(self, BadWish, "value", thing, function, large, RULES, thing, None, *more)
                wanted_error(self, BadName, "value", thing, function, large, RULES, SOLVED, thing, *more)
                if many and not isinstance(thing, Full):
                    wanted_error(self, BadFull, "value", thing, function, large, RULES, SOLVED, "s", thing, *more[1:])
                    wanted_error(self, BadFull, "value", thing, function, large, RULES, SOLVED, "s", one, thing, *more[2:])
            wanted_error(self, BadName, "value", "t", function, large, RULES, SOLVED, "t", *more)

    def test_too_many_stands_ahead_of_fulls_that_are_not_reached(self):
        one = full(Level(Room(["@"])), RULES)
        for grammar, rules in ((Grammar([END, ("t", DOOR_ROOM, ())], "s"), RULES), (MANY, Rules(2))):
            wanted_error(self, TooMany, None, None, kin, grammar, rules, SOLVED, "s")
            wanted_error(self, TooMany, None, None, parting, grammar, rules, SOLVED, "s", one, one)
            wanted_error(self, TooMany, None, None, is_parting, grammar, rules, SOLVED, "s", one, one, None)

    def test_fulls_that_are_not_reached(self):
        there, other = reached(CARRIED, RULES)["k"][0], reached(CARRIED, RULES)["u"][0]
        table = there.base
        wrong = [
            other, full(Level(Room(["@*"])), Rules(2)), full(Level(Room(["@*"])), Rules(1, True)),
            Full(table, {bag: [("star",)] for bag in RULES.bags()}), Full(none(RULES), there.weak()),
        ]
        for one in wrong:
            for function, more in ((parting, ()), (is_parting, (None,))):
                wanted_error(self, BadFull, "value", one, function, CARRIED, RULES, SOLVED, "k", one, there, *more)
                wanted_error(self, BadFull, "value", one, function, CARRIED, RULES, SOLVED, "k", there, one, *more)
                wanted_error(self, BadFull, "value", one, function, CARRIED, RULES, SOLVED, "k", one, wrong[0], *more)
                wanted_error(self, BadFull, "value", None, function, CARRIED, RULES, SOLVED, "k", one, None, *more)
        nothing = Grammar([END], "t")
        wanted_error(self, BadFull, "value", there, parting, nothing, RULES, SOLVED, "t", there, there)
        self.assertEqual(chain(1), (0, (chain(0),)))
        self.assertIsNone(parting(ROW, RULES, SOLVED, "s", reached(ROW, RULES)["s"][0], reached(ROW, RULES)["s"][-1]))


if __name__ == "__main__":
    unittest.main()
