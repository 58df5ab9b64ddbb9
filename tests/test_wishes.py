import random
import unittest

from anything import anything, wanted_error
from naive import ALL_RULES, naive_costs, naive_options, naive_positions, random_level
from roomsthrough.errors import BadFull, BadRules, BadWish
from roomsthrough.fulls import Full, full
from roomsthrough.levels import Level
from roomsthrough.rooms import Room
from roomsthrough.rules import Rules
from roomsthrough.tables import none, same
from roomsthrough.wishes import is_wish, meets
from test_frailty import STARS

RULES = Rules()
NOTHING = (0, 0)
SOLVED = ("solved", NOTHING)
WISHES = [
    SOLVED, ("safe", NOTHING), ("safe", (1, 1)), ("back", NOTHING, (1, 1)), ("idle", (0, 1)), ("not", SOLVED),
    ("both", SOLVED, ("safe", NOTHING)), ("not", ("both", ("not", SOLVED), ("idle", (1, 0)))),
]


def negated(wish, times):
    for _ in range(times):
        wish = ("not", wish)
    return wish


def doubled(wish, times):
    for _ in range(times):
        wish = ("both", wish, wish)
    return wish


def random_wish(chance, rules, deep=3):
    bag, other = chance.choice(rules.bags()), chance.choice(rules.bags())
    if deep > 1 and chance.random() < 0.6:
        inner = random_wish(chance, rules, deep - 1)
        return ("not", inner) if chance.random() < 0.5 else ("both", inner, random_wish(chance, rules, deep - 1))
    return chance.choice([("solved", bag), ("safe", bag), ("back", bag, other), ("idle", bag)])


class IsWishTest(unittest.TestCase):
    def test_wishes(self):
        for wish in WISHES:
            self.assertIs(True, is_wish(RULES, wish))
        self.assertIs(True, is_wish(Rules(2), ("back", (2, 0), (0, 2))))

    def test_six_and_seven_deep(self):
        for wish in (SOLVED, ("back", NOTHING, NOTHING), ("idle", NOTHING), ("safe", (1, 1))):
            for grown in (negated, doubled):
                self.assertIs(True, is_wish(RULES, grown(wish, 5)))
                self.assertIs(False, is_wish(RULES, grown(wish, 6)))
                self.assertIs(False, is_wish(RULES, grown(wish, 20)))
        self.assertIs(True, is_wish(RULES, ("both", negated(SOLVED, 4), SOLVED)))
        self.assertIs(True, is_wish(RULES, ("both", SOLVED, negated(SOLVED, 4))))
        self.assertIs(False, is_wish(RULES, ("both", negated(SOLVED, 5), SOLVED)))
        self.assertIs(False, is_wish(RULES, ("both", SOLVED, negated(SOLVED, 5))))

    def test_bags_beyond_the_cap(self):
        for wish in (("solved", (2, 0)), ("safe", (0, 2)), ("idle", (2, 2)), ("back", NOTHING, (2, 0)),
                     ("back", (0, 2), NOTHING)):
            self.assertIs(False, is_wish(RULES, wish))
            self.assertIs(True, is_wish(Rules(2), wish))
            self.assertIs(False, is_wish(RULES, ("not", wish)))
            self.assertIs(False, is_wish(RULES, ("both", wish, SOLVED)))
            self.assertIs(False, is_wish(RULES, ("both", SOLVED, wish)))
            self.assertIs(False, is_wish(Rules(2), (wish[0],) + tuple((3, 0) for _ in wish[1:])))

    def test_flags_lists_and_other_words(self):
        wrong = [
            ("solved", (False, 0)), ("safe", (0, True)), ("back", NOTHING, (True, 0)), ("solved", [0, 0]),
            ["solved", NOTHING], ("not", ["solved", NOTHING]), ("both", SOLVED, ["solved", NOTHING]),
            ("both", [SOLVED, SOLVED]), ("Solved", NOTHING), ("won", NOTHING), ("or", SOLVED, SOLVED), ("", NOTHING),
            (None, NOTHING), (("solved",), NOTHING), (["solved"], NOTHING), ({}, NOTHING), ("solved",), ("solved", 0),
            ("solved", "star"), ("solved", NOTHING, NOTHING), ("back", NOTHING), ("back", NOTHING, NOTHING, NOTHING),
            ("back", NOTHING, "star"), ("not",), ("not", SOLVED, SOLVED), ("not", NOTHING), ("not", "solved"),
            ("both", SOLVED), ("both", SOLVED, SOLVED, SOLVED), ("both", SOLVED, NOTHING), ("idle", SOLVED), (),
            ("safe", None), ("not", None), ("solved", (0, 0, 0)), ("solved", (0,)), ("idle", (-1, 0)), (0, 0),
            (SOLVED,), ("solved", (0.0, 0)), (b"solved", NOTHING), "solved", ("solved", 0, 0), ("not", ()),
        ]
        for thing in wrong:
            self.assertIs(False, is_wish(RULES, thing), thing)
            self.assertIs(False, is_wish(RULES, ("not", thing)), thing)
            wanted_error(self, BadWish, "value", thing, meets, full(Level(Room(["@"])), RULES), thing)

    def test_things_of_any_kind(self):
        right = [("solved", NOTHING), ("not", ("idle", NOTHING))]
        for thing in anything():
            self.assertIs(thing in right, is_wish(RULES, thing))
        self.assertIs(False, is_wish(RULES, ("both",) + (SOLVED,) * 10 ** 6))
        self.assertIs(False, is_wish(RULES, doubled(SOLVED, 500)))

    def test_rules(self):
        for thing in anything():
            if not isinstance(thing, Rules):
                wanted_error(self, BadRules, "value", thing, is_wish, thing, SOLVED)


class MeetsTest(unittest.TestCase):
    def test_by_hand(self):
        one = full(Level(Room(["@*"])), RULES)
        self.assertIs(True, meets(one, SOLVED))
        self.assertIs(True, meets(one, ("safe", NOTHING)))
        self.assertIs(True, meets(one, ("back", NOTHING, NOTHING)))
        self.assertIs(False, meets(one, ("back", NOTHING, (1, 0))))
        self.assertIs(False, meets(one, ("idle", NOTHING)))
        self.assertIs(True, meets(full(Level(Room(["@"])), RULES), ("idle", (1, 1))))
        self.assertIs(False, meets(full(Level(Room(["@a"])), RULES), ("idle", NOTHING)))
        self.assertIs(True, meets(full(Level(Room(["@a"])), RULES), ("idle", (1, 0))))
        self.assertIs(False, meets(one, ("not", SOLVED)))
        self.assertIs(True, meets(one, ("both", SOLVED, ("not", ("idle", NOTHING)))))
        self.assertIs(False, meets(one, ("both", SOLVED, ("idle", NOTHING))))
        self.assertIs(False, meets(one, ("both", ("idle", NOTHING), SOLVED)))

    def test_fulls_that_no_level_has(self):
        weak = {bag: [("star",)] for bag in RULES.bags()}
        one = Full(none(RULES), weak)
        self.assertIs(False, meets(one, SOLVED))
        self.assertIs(True, meets(one, ("safe", NOTHING)))
        self.assertIs(False, meets(one, ("idle", NOTHING)))
        other = Full(same(RULES), dict(weak) | {NOTHING: [("star",), ((0, 1), (1, 0))]})
        self.assertIs(False, meets(other, ("safe", NOTHING)))
        self.assertIs(True, meets(other, ("safe", (1, 0))))
        self.assertIs(True, meets(other, ("idle", NOTHING)))

    def test_against_a_search_through_all_plays(self):
        chance = random.Random(141)
        compared = {True: 0, False: 0}
        for number in range(130):
            rules = ALL_RULES[number % 8]
            level = random_level(chance, 1 + number % 3, 8, STARS)
            one = full(level, rules)
            for _ in range(4):
                wish = random_wish(chance, rules)
                wanted = self.holds(level, rules, wish)
                if wanted is not None:
                    compared[wanted] += 1
                    self.assertIs(wanted, meets(one, wish))
        self.assertGreater(min(compared.values()), 80)

    def holds(self, level, rules, wish):
        """Whether the level fulfils the wish, by trying all plays; None if they are too many."""
        if wish[0] == "not":
            inner = self.holds(level, rules, wish[1])
            return None if inner is None else not inner
        if wish[0] == "both":
            inner = [self.holds(level, rules, part) for part in wish[1:]]
            return None if None in inner else inner == [True, True]
        if wish[0] == "safe":
            positions = naive_positions(level, rules, wish[1], 500)
            return positions and all("star" in told for told in naive_options(positions).values())
        told = naive_costs(level, rules, wish[1], 500)
        if told is None:
            return None
        if wish[0] == "solved":
            return "star" in told
        return wish[2] in told if wish[0] == "back" else set(told) == {wish[1]}

    def test_errors(self):
        for thing in anything():
            if not isinstance(thing, Full):
                wanted_error(self, BadFull, "value", thing, meets, thing, None)
            if thing not in [("solved", NOTHING), ("not", ("idle", NOTHING))]:
                wanted_error(self, BadWish, "value", thing, meets, full(Level(Room(["@"])), RULES), thing)
        for wish in (("solved", (2, 0)), negated(SOLVED, 6)):
            wanted_error(self, BadWish, "value", wish, meets, full(Level(Room(["@"])), RULES), wish)
        self.assertIs(True, meets(full(Level(Room(["@*"])), Rules(2)), ("solved", (2, 0))))


if __name__ == "__main__":
    unittest.main()
