import random
import unittest

from anything import anything, wanted_error
from naive import ALL_RULES, naive_frail, random_level, random_room
from roomsthrough.errors import BadBag, BadFrail, BadFull, BadLevel, BadRoom, BadRules, BadTable, TooMany
from roomsthrough.frailty import frail
from roomsthrough.fulls import Full, fragile, full, full_of, twins
from roomsthrough.levels import Level, row_of
from roomsthrough.middle import met, table, table_of
from roomsthrough.rooms import Room
from roomsthrough.rules import Rules
from roomsthrough.states import begin, steps
from roomsthrough.tables import Table, none, same
from test_middle import DOOR_ROOM, EXAMPLE, FULL_ROOM, LARGE_ROOM, MOUTH_ROOM, behind
from test_tables import every_outcome, random_table

RULES = Rules()
NOTHING = (0, 0)
LEAF = Level(Room(["@"]))


def random_frail(chance, rules):
    outcomes = every_outcome(rules)
    found = {}
    for bag in rules.bags():
        some = [[o for o in outcomes if chance.random() < 0.4] for _ in range(chance.randint(1, 4))]
        found[bag] = naive_frail(rules, some)
    return found


def random_full(chance, rules):
    return Full(random_table(chance, rules), random_frail(chance, rules))


def options_again(room, tables, state, found):
    """The outcomes that can be had from a state on, by trying everything; found keeps what is known."""
    if state not in found:
        seen, told = {state}, set()
        todo = [state]
        rules = tables.rules
        while todo:
            now = todo.pop()
            mark = room.cell(now[0])
            if mark == "@":
                told.add(now[4])
            if mark == "*":
                told.add("star")
            if mark in "12" and int(mark) not in now[3] and tables.row[int(mark) - 1].lets(now[4], "star"):
                told.add("star")
            for after in [after for _, after in steps(room, rules, now)] + behind(room, tables.row, now):
                if after not in seen:
                    seen.add(after)
                    todo.append(after)
        found[state] = frozenset(told)
    return found[state]


class Children:
    """The rules, the tables and the frailties of some fulls."""

    def __init__(self, rules, fulls):
        self.rules = rules
        self.row = [one.base for one in fulls]
        self.weak = [one.weak() for one in fulls]


def frail_again(room, rules, fulls, bag):
    """The frailty for a bag, straight from the words of the document."""
    children, known, sets = Children(rules, fulls), {}, []
    for state in met(room, rules, children.row, bag):
        at, crates, gone, used, carried = state
        mark = room.cell(at)
        if mark != "*":
            sets.append(options_again(room, children, state, known))
        if mark in "12" and int(mark) not in used:
            then_used = tuple(sorted([*used, int(mark)]))
            for some in children.weak[int(mark) - 1][carried]:
                union = set()
                for outcome in some:
                    after = (at, crates, gone, then_used, outcome)
                    union |= {"star"} if outcome == "star" else options_again(room, children, after, known)
                sets.append(union)
    return naive_frail(rules, sets)


class FullTest(unittest.TestCase):
    def test_what_it_keeps(self):
        weak = {bag: [(bag,), ("star",)] for bag in RULES.bags()}
        one = Full(same(RULES), weak)
        self.assertTrue(one.base == same(RULES))
        self.assertIsInstance(one.base, Table)
        self.assertEqual(weak, one.weak())
        self.assertEqual(RULES.bags(), list(one.weak()))
        self.assertTrue(all(isinstance(row, list) for row in one.weak().values()))
        self.assertTrue(all(isinstance(options, tuple) for row in one.weak().values() for options in row))

    def test_what_is_passed_and_returned_is_copied(self):
        weak = {bag: [(bag,)] for bag in RULES.bags()}
        one = Full(same(RULES), weak)
        weak[NOTHING].append(("star",))
        weak[(1, 1)] = [()]
        self.assertEqual([(NOTHING,)], one.weak()[NOTHING])
        one.weak()[NOTHING].clear()
        one.weak().clear()
        self.assertEqual({bag: [(bag,)] for bag in RULES.bags()}, one.weak())
        self.assertEqual([(NOTHING,), ("star",)], weak[NOTHING])

    def test_equality(self):
        weak = {bag: [(bag,)] for bag in RULES.bags()}
        one = Full(same(RULES), weak)
        self.assertTrue(one == Full(same(RULES), {bag: [(bag,)] for bag in reversed(RULES.bags())}))
        self.assertFalse(one != Full(same(RULES), weak))
        self.assertFalse(one == Full(none(RULES), weak))
        self.assertFalse(one == Full(same(RULES), dict(weak, **{}) | {NOTHING: [()]}))
        self.assertFalse(one == Full(same(RULES), weak | {(1, 1): [((1, 1),), ("star",)]}))
        strong = Rules(1, True)
        self.assertFalse(one == Full(same(strong), weak))
        for thing in anything():
            self.assertIs(isinstance(thing, Full), one == thing)
        self.assertIs(False, one == same(RULES))

    def test_drawn_ones(self):
        chance = random.Random(111)
        for number in range(100):
            rules = ALL_RULES[number % 8]
            base, weak = random_table(chance, rules), random_frail(chance, rules)
            one = Full(base, weak)
            self.assertTrue(one.base == base)
            self.assertEqual(weak, one.weak())
            other = weak | {chance.choice(rules.bags()): [()]}
            self.assertIs(weak == other, one == Full(base, other))

    def test_what_is_no_table(self):
        for thing in anything():
            if not isinstance(thing, Table):
                wanted_error(self, BadTable, "value", thing, Full, thing, None)

    def test_what_is_no_dict_with_just_the_bags(self):
        right = {bag: [(bag,)] for bag in RULES.bags()}
        short = {bag: [(bag,)] for bag in RULES.bags()[:3]}
        wrong = [short, right | {"star": [()]}, right | {(0, 2): [()]}, short | {(1, True): [()]}, short | {(2, 2): 0},
                 {bag: [()] for bag in Rules(2).bags()}, list(right.items()), {(False, 0): 0, **short}]
        for thing in anything() + wrong:
            if thing != {(0, 0): [], (0, 1): [], (1, 0): [], (1, 1): []}:
                wanted_error(self, BadFrail, "value", -1, Full, same(RULES), thing)
        empty = {bag: [] for bag in RULES.bags()}
        wanted_error(self, BadFrail, "value", NOTHING, Full, same(RULES), empty)
        wanted_error(self, BadFrail, "value", -1, Full, same(RULES), {bag: None for bag in Rules(2).bags()})

    def test_everything_that_is_no_frailty(self):
        wrong = [
            [], ((),), ((NOTHING,),), [[]], [[NOTHING]], [None], [(), ()], [(), (NOTHING,)], [(NOTHING,), ()],
            [(NOTHING,), (NOTHING,)], [(NOTHING,), (NOTHING, "star")], [("star",), (NOTHING,)], [NOTHING], ["star"],
            [("star", NOTHING)], [((0, 1), NOTHING)], [(NOTHING, NOTHING)], [("star", "star")], [((0, 2),)], [((2, 0),)],
            [((0, True),)], [((False, 0),)], [([0, 0],)], [("Star",)], [(None,)], [(0,)], [(("star",),)], [{}],
            [((0, 0), (0, 1)), ("star",)], [((0, 0), "star"), ((0, 0), (0, 1))], [((1, 0),), ((0, 1),)],
            [((0, 1), (1, 0)), ((0, 0), "star")], {(): True}, [()] * 5000, [(NOTHING,)] * 5000, "()", None, 0, len,
            [((0, 1),), ((0, 0), (0, 1))], [((0, 0), (0, 1), (1, 0)), ((0, 0), (0, 1), (1, 1)), ((0, 0), (0, 1))],
        ]
        for thing in wrong + [one for one in anything() if one != [()]]:
            for bag in RULES.bags():
                weak = {other: thing if other >= bag else [()] for other in RULES.bags()}
                wanted_error(self, BadFrail, "value", bag, Full, same(RULES), weak)
        weak = {(1, 1): None, (1, 0): [], (0, 1): [], (0, 0): [()]}
        wanted_error(self, BadFrail, "value", (0, 1), Full, same(RULES), weak)

    def test_what_is_a_frailty(self):
        right = [
            [()], [("star",)], [(NOTHING,)], [(NOTHING,), ("star",)], [(NOTHING,), ((0, 1),), ((1, 0), (1, 1), "star")],
            [((0, 0), (0, 1)), ((0, 0), (1, 0)), ((0, 0), "star"), ((0, 1), (1, 0))], [tuple(every_outcome(RULES))],
            [((1, 1),), ((0, 0), (0, 1))], [((1, 0), "star"), ((0, 0), (0, 1), (1, 1))],
        ]
        for row in right:
            weak = {bag: row for bag in RULES.bags()}
            self.assertEqual(weak, Full(none(RULES), weak).weak())


class FullOfTest(unittest.TestCase):
    def test_the_example_of_the_document(self):
        one = full(EXAMPLE, RULES)
        self.assertTrue(one.base == table(EXAMPLE, RULES))
        self.assertEqual([((0, 0),), ((1, 0),)], one.weak()[NOTHING])
        self.assertEqual([((1, 0),)], one.weak()[(1, 0)])

    def test_a_level_is_its_room_and_the_fulls_of_its_children(self):
        chance = random.Random(112)
        for number in range(120):
            rules, level = ALL_RULES[number % 8], random_level(chance, 1 + number % 4, 9)
            one = full(level, rules)
            self.assertTrue(one.base == table(level, rules))
            self.assertEqual(frail(level, rules), one.weak())
            fulls = [full(child, rules) for child in level.children]
            self.assertTrue(one == full_of(level.room, rules, fulls))
            self.assertTrue(one == full_of(level.room, rules, tuple(fulls)))

    def test_fulls_that_no_level_has(self):
        chance = random.Random(113)
        for number in range(64):
            rules = ALL_RULES[number % 8]
            room = random_room(chance, 1 + number % 2, 7)
            fulls = [random_full(chance, rules) for _ in range(room.mouths)]
            one = full_of(room, rules, fulls)
            self.assertTrue(one.base == table_of(room, rules, [each.base for each in fulls]))
            for bag in rules.bags():
                self.assertEqual(frail_again(room, rules, fulls, bag), one.weak()[bag], (room.rows, bag))

    def test_drawn_by_hand(self):
        weak = {bag: [(NOTHING, "star"), ((0, 1), (1, 0))] for bag in RULES.bags()}
        child = Full(none(RULES), weak)
        one = full_of(Room(["@1"]), RULES, [child])
        self.assertTrue(one.base == same(RULES))
        self.assertEqual([(NOTHING,), ((0, 1), (1, 0))], one.weak()[NOTHING])
        self.assertEqual([()], full_of(Room(["1<@"]), RULES, [child]).weak()[NOTHING])
        stars = Full(Table(RULES, {bag: ["star"] for bag in RULES.bags()}), weak)
        self.assertEqual([()], full_of(Room(["1<@"]), RULES, [stars]).weak()[NOTHING])
        wanted = [(NOTHING, "star"), ((0, 1), (1, 0))]
        self.assertEqual(wanted, full_of(Room(["@1"]), RULES, [stars]).weak()[NOTHING])
        weak = {bag: [((1, 0),)] for bag in RULES.bags()}
        backs = Full(Table(RULES, {bag: ["star"] for bag in RULES.bags()}), weak)
        self.assertEqual([((1, 0),), (NOTHING, "star")], full_of(Room(["@1"]), RULES, [backs]).weak()[NOTHING])

    def test_children_exchanged_for_equal_ones(self):
        chance = random.Random(114)
        by_full = []
        exchanged = 0
        for _ in range(220):
            child = random_level(chance, 1, 6, "...aAo#^")
            own = full(child, RULES)
            for other, other_child in by_full:
                if own == other and own.base == table(other_child, RULES):
                    room = random_room(chance, 1, 8)
                    self.assertTrue(full(Level(room, [child]), RULES) == full(Level(room, [other_child]), RULES))
                    exchanged += 1
            by_full = by_full[-20:] + [(own, child)]
        self.assertGreater(exchanged, 100)

    def test_long_rows_and_equal_parts(self):
        level = row_of(Room(["@.1", "a#A"]), EXAMPLE, 59 - 1)
        one = full(level, RULES)
        again = full(EXAMPLE, RULES)
        for _ in range(58):
            again = full_of(Room(["@.1", "a#A"]), RULES, [again])
        self.assertTrue(one == again)


class FragileTest(unittest.TestCase):
    def test_by_hand(self):
        wanted = [
            ((0, (), (), (), NOTHING), (NOTHING, "star")), ((1, (), (), (), NOTHING), (NOTHING, "star")),
            ((2, (), (), (), NOTHING), ("star",)),
        ]
        self.assertEqual(wanted, fragile(Room(["@.*"]), RULES, [], NOTHING))
        room = Room(["@v", "#."])
        wanted = [((0, (), (), (), NOTHING), (NOTHING,)), ((1, (), (), (), NOTHING), ()), ((3, (), (), (), NOTHING), ())]
        self.assertEqual(wanted, fragile(room, RULES, (), NOTHING))

    def test_the_example_of_the_document(self):
        found = fragile(EXAMPLE.room, RULES, [full(EXAMPLE.part((1,)), RULES)], NOTHING)
        self.assertEqual(10, len(found))
        told = dict(found)
        self.assertEqual((NOTHING, (1, 0), "star"), told[(0, (), (), (), NOTHING)])
        self.assertEqual(((1, 0),), told[(2, (), (1,), (1,), (1, 0))])

    def test_against_a_search_from_each_state(self):
        chance = random.Random(115)
        for number in range(160):
            rules = ALL_RULES[number % 8]
            room = random_room(chance, number % 3, 8)
            if number % 2:
                fulls = [full(random_level(chance, 1, 6), rules) for _ in range(room.mouths)]
            else:
                fulls = tuple([random_full(chance, rules) for _ in range(room.mouths)])
            bag = chance.choice(rules.bags())
            children, known = Children(rules, fulls), {}
            wanted = []
            for state in met(room, rules, children.row, bag):
                told = options_again(room, children, state, known)
                wanted.append((state, tuple([o for o in every_outcome(rules) if o in told])))
            found = fragile(room, rules, fulls, bag)
            self.assertEqual(wanted, found)
            self.assertEqual(sorted(found, key=lambda pair: pair[0]), found)

    def test_what_is_returned_is_new_each_time(self):
        fragile(Room(["@.*"]), RULES, [], NOTHING).clear()
        self.assertEqual(3, len(fragile(Room(["@.*"]), RULES, [], NOTHING)))


class TwinsTest(unittest.TestCase):
    def test_by_hand(self):
        self.assertIs(True, twins(Room(["@*"]), Room(["@..*", "...."]), RULES))
        self.assertIs(True, twins(Room(["@"]), Room(["..", ".@"]), RULES))
        self.assertIs(False, twins(Room(["@*"]), Room(["@"]), RULES))
        self.assertIs(False, twins(Room(["@*"]), Room(["*@v", "##."]), RULES))
        self.assertIs(False, twins(Room(["@a"]), Room(["@b"]), RULES))
        self.assertIs(True, twins(Room(["@a"]), Room(["a@"]), RULES))
        self.assertIs(True, twins(Room(["@oo*"]), Room(["@"]), RULES))
        self.assertIs(False, twins(Room(["@oop", "#g##", "#*##"]), Room(["@"]), Rules(1, True)))

    def test_twins_can_be_exchanged(self):
        chance = random.Random(116)
        seen = {True: 0, False: 0}
        for number in range(300):
            rules = ALL_RULES[number % 8]
            one, other = random_room(chance, 0, 4, "..aA*"), random_room(chance, 0, 4, "..aA*")
            found = twins(one, other, rules)
            seen[found] += 1
            self.assertIs(found, full(Level(one), rules) == full(Level(other), rules))
            self.assertIs(found, twins(other, one, rules))
            if found:
                above = random_room(chance, 1, 7)
                self.assertTrue(full(Level(above, [Level(one)]), rules) == full(Level(above, [Level(other)]), rules))
        self.assertGreater(min(seen.values()), 20)


class ErrorTest(unittest.TestCase):
    def test_in_their_order(self):
        large = Level(LARGE_ROOM)
        for thing in anything():
            if not isinstance(thing, Level):
                wanted_error(self, BadLevel, "value", thing, full, thing, None)
            if not isinstance(thing, Room):
                wanted_error(self, BadRoom, "value", thing, full_of, thing, None, None)
                wanted_error(self, BadRoom, "value", thing, fragile, thing, None, None, None)
            if not isinstance(thing, Room) or thing.mouths:
                wanted_error(self, BadRoom, "value", thing, twins, thing, None, None)
                wanted_error(self, BadRoom, "value", thing, twins, LARGE_ROOM, thing, None)
            if not isinstance(thing, Rules):
                wanted_error(self, BadRules, "value", thing, full, large, thing)
                wanted_error(self, BadRules, "value", thing, full_of, LARGE_ROOM, thing, None)
                wanted_error(self, BadRules, "value", thing, fragile, LARGE_ROOM, thing, None, None)
                wanted_error(self, BadRules, "value", thing, twins, LARGE_ROOM, LARGE_ROOM, thing)
            if thing not in ([], ()):
                wanted_error(self, BadFull, "value", -1, full_of, LARGE_ROOM, RULES, thing)
                wanted_error(self, BadFull, "value", -1, fragile, LARGE_ROOM, RULES, thing, None)
            if not isinstance(thing, tuple) or thing not in RULES.bags() or thing == (True, False):
                wanted_error(self, BadBag, "value", thing, fragile, LARGE_ROOM, RULES, [], thing)

    def test_rows_of_fulls(self):
        one, other = full(LEAF, RULES), full(LEAF, Rules(2))
        wrong = [one, [], (), [one, one], [other], [one.base], [None], [LEAF], {0: one}, "f"]
        for thing in wrong:
            wanted_error(self, BadFull, "value", -1, full_of, Room(["@1"]), RULES, thing)
            wanted_error(self, BadFull, "value", -1, fragile, Room(["@1"]), RULES, thing, NOTHING)
        for thing in ([one], [one, other], [one, one, one], [one, None]):
            wanted_error(self, BadFull, "value", -1, full_of, Room(["1@2"]), RULES, thing)
        self.assertTrue(full_of(Room(["@1"]), Rules(), [full(LEAF, Rules())]) == full(Level(Room(["@1"]), [LEAF]), RULES))

    def test_too_many(self):
        for level in (Level(LARGE_ROOM), Level(DOOR_ROOM), Level(Room(["@#1*"]), [Level(LARGE_ROOM)])):
            wanted_error(self, TooMany, None, None, full, level, RULES)
        for room in (LARGE_ROOM, DOOR_ROOM):
            wanted_error(self, TooMany, None, None, full_of, room, RULES, [])
            wanted_error(self, TooMany, None, None, twins, room, Room(["@"]), RULES)
            wanted_error(self, TooMany, None, None, twins, Room(["@"]), room, RULES)
        wanted_error(self, TooMany, None, None, fragile, LARGE_ROOM, RULES, [], NOTHING)
        wanted_error(self, TooMany, None, None, fragile, DOOR_ROOM, RULES, [], (1, 0))
        self.assertEqual(3000, len(fragile(FULL_ROOM, RULES, [], NOTHING)))
        self.assertTrue(full_of(FULL_ROOM, RULES, []).base == table(Level(FULL_ROOM), RULES))
        self.assertTrue(twins(FULL_ROOM, FULL_ROOM, RULES))

    def test_just_as_many_states_as_are_let(self):
        """Rooms, the outcomes of their children by bags, and the bag with which the most states can be met."""
        just = [
            (["...o", ".ob1", "...a", "bA@."], [[10, 4, 12, 1]], (0, 0)),
            (["..b..", ".1..b", "..ao.", ".@b.."], [[0, 2, 4, 12]], (0, 0)),
            (["...1@b", "o.a...", "...ba2"], [[0, 11, 8, 0], [2, 0, 0, 2]], (0, 0)),
            (["..a.", ".@..", ".oA.", ".21."], [[4, 5, 3, 0], [8, 12, 9, 0]], (0, 1)),
        ]
        beyond = [
            (["@...", "A...", "..1a", "o.A.", "..ao"], [[3, 15, 12, 2]], (0, 1)),
            ([".a..", "..@.", "Ao1A", "...."], [[10, 0, 6, 0]], (1, 0)),
            ([".1...o", "@ao...", ".a2..."], [[2, 0, 2, 2], [3, 1, 0, 1]], (0, 0)),
            (["@o...", "x..x.", "x2op1", "x.pxp"], [[10, 2, 0, 7], [5, 2, 1, 1]], (1, 1)),
        ]
        for rows, told, bag in just + beyond:
            room, fulls = Room(rows), [self.full_with_no_options(masks) for masks in told]
            tables = [one.base for one in fulls]
            if (rows, told, bag) in just:
                self.assertEqual(3000, len(met(room, RULES, tables, bag)))
                self.assertEqual(3000, len(fragile(room, RULES, fulls, bag)))
                self.assertTrue(full_of(room, RULES, fulls).base == table_of(room, RULES, tables))
                continue
            wanted_error(self, TooMany, None, None, met, room, RULES, tables, bag)
            wanted_error(self, TooMany, None, None, table_of, room, RULES, tables)
            wanted_error(self, TooMany, None, None, fragile, room, RULES, fulls, bag)
            wanted_error(self, TooMany, None, None, full_of, room, RULES, fulls)

    def full_with_no_options(self, masks):
        """A full whose outcomes for each bag are those bags whose bits are in the mask."""
        bags = RULES.bags()
        rows = {bag: [bags[at] for at in range(4) if mask >> at & 1] for bag, mask in zip(bags, masks)}
        return Full(Table(RULES, rows), {bag: [()] for bag in bags})

    def test_too_many_where_the_tables_have_too_many(self):
        chance = random.Random(117)
        seen = {True: 0, False: 0}
        while min(seen.values()) < 12:
            rules = ALL_RULES[4 + chance.randrange(4)]
            marks = chance.choice(["......ab", ".....abAB", "....o.a", "......xo", "......"])
            room = random_room(chance, 2, 24, marks)
            fulls = [Full(random_table(chance, rules), {bag: [()] for bag in rules.bags()}) for _ in range(2)]
            try:
                wanted, raised = table_of(room, rules, [one.base for one in fulls]), False
            except TooMany:
                wanted, raised = None, True
            if seen[raised] < 12 and len(room.rows) * len(room.rows[0]) > 12:
                seen[raised] += 1
                if raised:
                    wanted_error(self, TooMany, None, None, full_of, room, rules, fulls)
                else:
                    self.assertTrue(full_of(room, rules, fulls).base == wanted)

    def test_too_many_with_the_tables_of_the_children(self):
        weak = {bag: [()] for bag in RULES.bags()}
        shut, free = Full(none(RULES), weak), Full(same(RULES), weak)
        self.assertEqual(1, len(full_of(MOUTH_ROOM, RULES, [shut]).weak()[NOTHING]))
        wanted_error(self, TooMany, None, None, full_of, MOUTH_ROOM, RULES, [free])
        wanted_error(self, TooMany, None, None, fragile, MOUTH_ROOM, RULES, [free], NOTHING)
        drawn = Full(none(RULES), {bag: [(bag,)] for bag in RULES.bags()})
        self.assertEqual([()], full_of(MOUTH_ROOM, RULES, [drawn]).weak()[NOTHING])
        self.assertEqual(met(MOUTH_ROOM, RULES, [none(RULES)], NOTHING),
                         [state for state, _ in fragile(MOUTH_ROOM, RULES, [shut], NOTHING)])
        self.assertIn((begin(MOUTH_ROOM, RULES, NOTHING), (NOTHING,)), fragile(MOUTH_ROOM, RULES, [shut], NOTHING))


if __name__ == "__main__":
    unittest.main()
