import itertools
import random
import unittest

from anything import anything, wanted_error
from naive import ALL_RULES
from roomsthrough.errors import BadGrammar, BadRules, BadWish, NoPaper, TooMany
from roomsthrough.frailty import is_safe
from roomsthrough.fulls import Full, full, full_of
from roomsthrough.grammars import Grammar, derivations, level_of
from roomsthrough.levels import Level
from roomsthrough.plays import least, outcomes
from roomsthrough.reaching import least_of, reached
from roomsthrough.rooms import Room
from roomsthrough.rules import Rules
from roomsthrough.tables import none
from roomsthrough.verdicts import every, is_verdict_paper, some, verdict_paper
from roomsthrough.wishes import meets
from test_fulls import random_full
from test_grammars import END, FORK, LEAF, LINE, ROW, TREE, chain, random_grammar
from test_middle import DOOR_ROOM, FULL_ROOM, LARGE_ROOM, MOUTH_ROOM
from test_reaching import DOUBLE, FULLEST, MANY
from test_wishes import negated, random_wish

RULES = Rules()
NOTHING = (0, 0)
SOLVED = ("solved", NOTHING)
ANY = ("not", ("both", SOLVED, ("not", SOLVED)))
NONE = ("both", SOLVED, ("not", SOLVED))
KEYS = Grammar([("s", Room(["@a1"]), ("s",)), ("s", Room(["@A*"]), ()), ("s", Room(["@1"]), ("t",)), ("t", LEAF, ())], "s")


def level_meets(level, rules, wish):
    """Whether a level fulfils a wish, by what the plays of the level tell."""
    if wish[0] == "not":
        return not level_meets(level, rules, wish[1])
    if wish[0] == "both":
        return level_meets(level, rules, wish[1]) and level_meets(level, rules, wish[2])
    if wish[0] == "safe":
        return is_safe(level, rules, wish[1])
    if wish[0] == "idle":
        return outcomes(level, rules, wish[1]) == [wish[1]]
    return least(level, rules, wish[1], "star" if wish[0] == "solved" else wish[2]) is not None


def copied(paper):
    return {name: list(row) for name, row in paper.items()}


def judged(grammar, rules, wish, paper):
    """Whether a dict from the names to lists of fulls is a verdict paper, from the words of the document."""
    if not all(meets(one, wish) for one in paper[grammar.start]):
        return False
    for name, room, names in grammar.rows:
        for fulls in itertools.product(*[paper[inner] for inner in names]):
            made = full_of(room, rules, list(fulls))
            if not any(made == one for one in paper[name]):
                return False
    return True


class VerdictTest(unittest.TestCase):
    def test_by_hand(self):
        self.assertEqual((1, ()), every(KEYS, RULES, SOLVED))
        self.assertEqual((0, ((1, ()),)), some(KEYS, RULES, ("both", SOLVED, ("back", NOTHING, (1, 0)))))
        self.assertEqual((0, ((1, ()),)), some(KEYS, RULES, SOLVED))
        self.assertEqual((2, ((3, ()),)), some(KEYS, RULES, ("both", SOLVED, ("not", ("back", NOTHING, (1, 0))))))
        self.assertIsNone(some(KEYS, RULES, ("safe", NOTHING)))
        self.assertIsNone(every(ROW, RULES, SOLVED))
        self.assertEqual((1, ()), some(ROW, RULES, SOLVED))
        self.assertIsNone(some(ROW, RULES, ("not", SOLVED)))
        self.assertIsNone(some(ROW, RULES, ("back", NOTHING, (1, 0))))
        self.assertEqual((1, ()), every(ROW, RULES, ("back", NOTHING, (1, 0))))

    def test_wishes_that_all_fulfil_and_that_none_does(self):
        for grammar in (ROW, TREE, KEYS):
            first = next(made for made in derivations(grammar, grammar.start, 9))
            self.assertIsNone(every(grammar, RULES, ANY))
            self.assertEqual(first, some(grammar, RULES, ANY))
            self.assertIsNone(some(grammar, RULES, NONE))
            self.assertEqual(first, every(grammar, RULES, NONE))

    def test_nothing_is_made(self):
        for grammar in (Grammar([END], "t"), Grammar([("s", LINE, ("s",))], "s"), Grammar([END, ("t", LINE, ("u",))], "t")):
            for wish in (ANY, NONE, SOLVED):
                self.assertIsNone(every(grammar, RULES, wish))
                self.assertIsNone(some(grammar, RULES, wish))
                paper = verdict_paper(grammar, RULES, wish)
                self.assertEqual([], paper[grammar.start])
                self.assertIs(True, is_verdict_paper(grammar, RULES, wish, paper))

    def test_against_the_levels_of_small_derivations(self):
        chance = random.Random(151)
        seen = {"every": 0, "some": 0, "none": 0}
        for number in range(90):
            rules, grammar = ALL_RULES[number % 8], random_grammar(chance, 4)
            wish = random_wish(chance, rules)
            try:
                found = {True: some(grammar, rules, wish), False: every(grammar, rules, wish)}
            except TooMany:
                continue
            small = list(itertools.islice(derivations(grammar, grammar.start, 5), 60))
            for wanted in (True, False):
                told = [made for made in small if level_meets(level_of(grammar, made), rules, wish) is wanted]
                if told:
                    self.assertEqual(told[0], found[wanted])
                    seen["some" if wanted else "every"] += 1
                elif found[wanted] is None:
                    seen["none"] += 1
                else:
                    self.assertNotIn(found[wanted], small)
                    self.assertIs(wanted, level_meets(level_of(grammar, found[wanted]), rules, wish))
        self.assertGreater(min(seen.values()), 10)

    def test_the_least_of_many(self):
        wish = ("back", NOTHING, (2, 0))
        found = reached(DOUBLE, Rules(2))["a"]
        self.assertEqual(least_of(DOUBLE, Rules(2), "a", found[-1]), some(DOUBLE, Rules(2), wish))
        self.assertEqual(least_of(DOUBLE, Rules(2), "a", found[0]), every(DOUBLE, Rules(2), wish))
        self.assertIsNone(some(DOUBLE, RULES, ("back", NOTHING, (1, 0))))

    def test_the_other_side(self):
        chance = random.Random(152)
        for number in range(40):
            rules, grammar = ALL_RULES[number % 8], random_grammar(chance, 4)
            other = Grammar([(name, room.mirrored(), names) for name, room, names in grammar.rows], grammar.start)
            wish = random_wish(chance, rules)
            self.assertEqual(every(grammar, rules, wish), every(other, rules, wish))
            self.assertEqual(some(grammar, rules, wish), some(other, rules, wish))
            one, two = reached(grammar, rules), reached(other, rules)
            for name in grammar.names():
                self.assertEqual(len(one[name]), len(two[name]))
                for left, right in zip(one[name], two[name]):
                    self.assertTrue(left == right)
                    self.assertEqual(least_of(grammar, rules, name, left), least_of(other, rules, name, right))
            self.assertEqual(every(grammar, rules, wish) is None, is_verdict_paper(other, rules, wish, one))


class PaperTest(unittest.TestCase):
    def yes(self, grammar, wish, paper, rules=RULES):
        self.assertIs(True, is_verdict_paper(grammar, rules, wish, paper))

    def no(self, grammar, wish, paper, rules=RULES):
        self.assertIs(False, is_verdict_paper(grammar, rules, wish, paper))

    def test_the_dict_of_reached_or_no_paper(self):
        chance = random.Random(153)
        seen = {True: 0, False: 0}
        for number in range(80):
            rules, grammar = ALL_RULES[number % 8], random_grammar(chance, 4)
            wish = random_wish(chance, rules)
            try:
                holds = every(grammar, rules, wish) is None
            except TooMany:
                continue
            seen[holds] += 1
            if not holds:
                wanted_error(self, NoPaper, None, None, verdict_paper, grammar, rules, wish)
                self.no(grammar, wish, reached(grammar, rules), rules)
                continue
            paper, wanted = verdict_paper(grammar, rules, wish), reached(grammar, rules)
            self.assertEqual(list(wanted), list(paper))
            for name in wanted:
                self.assertEqual(len(wanted[name]), len(paper[name]))
                self.assertTrue(all(one == other for one, other in zip(wanted[name], paper[name])))
            self.yes(grammar, wish, paper, rules)
        self.assertGreater(min(seen.values()), 15)

    def test_turned_about_and_doubled(self):
        paper = verdict_paper(KEYS, RULES, ANY)
        self.yes(KEYS, ANY, {name: row[::-1] for name, row in reversed(list(paper.items()))})
        self.yes(KEYS, ANY, {name: row * 3 for name, row in paper.items()})
        self.yes(KEYS, ANY, {name: row * 20000 for name, row in paper.items()})
        self.yes(KEYS, ANY, verdict_paper(KEYS, RULES, ANY))

    def test_a_full_left_out(self):
        paper = verdict_paper(KEYS, RULES, ANY)
        self.assertEqual([5, 1], [len(row) for row in paper.values()])
        for name in paper:
            for at in range(len(paper[name])):
                changed = copied(paper)
                del changed[name][at]
                self.assertFalse(judged(KEYS, RULES, ANY, changed))
                self.no(KEYS, ANY, changed)

    def test_fulls_put_in_and_left_out_by_chance(self):
        chance = random.Random(154)
        seen = {True: 0, False: 0}
        for number in range(160):
            rules, grammar = ALL_RULES[number % 8], random_grammar(chance, 3, ("s", "t"), 5)
            wish = random_wish(chance, rules, 2) if number % 2 else ("not", ("both", ("idle", NOTHING), ("solved", NOTHING)))
            try:
                paper = reached(grammar, rules)
            except TooMany:
                continue
            if max(map(len, paper.values())) > 6:
                continue
            for _ in range(3):
                changed = copied(paper)
                self.changed(chance, rules, grammar, changed)
                wanted = judged(grammar, rules, wish, changed)
                seen[wanted] += 1
                self.assertIs(wanted, is_verdict_paper(grammar, rules, wish, changed))
        self.assertGreater(min(seen.values()), 30)

    def changed(self, chance, rules, grammar, paper):
        """Leave out or put in a full, and sometimes put in all that is behind what was put in."""
        name = chance.choice(grammar.names())
        if paper[name] and chance.random() < 0.3:
            paper[name].pop(chance.randrange(len(paper[name])))
            return
        room = Room(chance.choice([["@"], ["@*"], ["@a"], ["@>"]]))
        paper[name].append(full_of(room, rules, []) if chance.random() < 0.6 else random_full(chance, rules))
        for _ in range(2):
            for index, (made, above, names) in enumerate(grammar.rows):
                for fulls in itertools.product(*[paper[inner][:8] for inner in names]):
                    one = full_of(above, rules, fulls)
                    if not any(one == other for other in paper[made]):
                        paper[made].append(one)

    def test_more_fulls_than_are_reached(self):
        one, other = full(Level(LEAF), RULES), full(Level(Room(["@"])), RULES)
        self.yes(ROW, ANY, {"s": [one, full_of(LINE, RULES, [one])]})
        self.no(ROW, ANY, {"s": [full_of(LINE, RULES, [other])]})
        grammar = Grammar([END, ("t", LINE, ("s",))], "s")
        self.yes(grammar, SOLVED, {"s": [one], "t": [one, full_of(LINE, RULES, [one]), other]})
        self.no(grammar, SOLVED, {"s": [one, other], "t": [one, full_of(LINE, RULES, [one]), full_of(LINE, RULES, [other])]})
        self.no(grammar, SOLVED, {"s": [one], "t": []})
        self.no(grammar, SOLVED, {"s": [], "t": [full_of(LINE, RULES, [one])]})

    def test_the_wish(self):
        paper = reached(KEYS, RULES)
        self.yes(KEYS, ANY, paper)
        self.no(KEYS, SOLVED, paper)
        self.yes(Grammar(KEYS.rows, "t"), SOLVED, paper)
        self.no(Grammar(KEYS.rows, "t"), ("not", SOLVED), paper)

    def test_names(self):
        paper = verdict_paper(KEYS, RULES, ANY)
        self.no(KEYS, ANY, {"s": paper["s"]})
        self.no(KEYS, ANY, {"t": paper["t"]})
        self.no(KEYS, ANY, dict(paper, u=[]))
        self.no(KEYS, ANY, {"s": paper["s"], "u": paper["t"]})
        self.no(KEYS, ANY, {"s": paper["s"], ("t",): paper["t"]})
        self.no(KEYS, ANY, {"s": paper["s"], 0: paper["t"]})
        self.no(KEYS, ANY, {})
        self.no(KEYS, ANY, dict(paper, **{"": []}))
        self.no(KEYS, ANY, {"x" * number: [] for number in range(10000)})

    def test_things_of_any_kind(self):
        paper = verdict_paper(KEYS, RULES, ANY)
        for thing in anything():
            self.no(KEYS, ANY, thing)
            self.no(KEYS, ANY, {"s": thing, "t": paper["t"]})
            self.no(KEYS, ANY, {"s": paper["s"], "t": thing})
            if not isinstance(thing, Full):
                self.no(KEYS, ANY, {"s": paper["s"] + [thing], "t": paper["t"]})
                self.no(KEYS, ANY, {"s": paper["s"], "t": [thing] + paper["t"]})
        self.no(KEYS, ANY, list(paper.items()))
        self.no(KEYS, ANY, {"s": tuple(paper["s"]), "t": paper["t"]})
        self.no(KEYS, ANY, {"s": paper["s"], "t": tuple(paper["t"])})
        self.no(KEYS, ANY, {"s": dict(enumerate(paper["s"])), "t": paper["t"]})
        self.no(KEYS, ANY, {"s": paper["s"], "t": [one.base for one in paper["t"]]})
        self.no(KEYS, ANY, {"s": [paper["s"]], "t": paper["t"]})

    def test_fulls_of_other_rules(self):
        paper = verdict_paper(KEYS, RULES, ANY)
        for rules in ALL_RULES[1:]:
            self.no(KEYS, ANY, verdict_paper(KEYS, rules, ANY))
            self.no(KEYS, ANY, paper, rules)
            self.no(KEYS, ANY, {"s": paper["s"], "t": paper["t"] + [full(Level(LEAF), rules)]})
            self.no(KEYS, ANY, {"s": paper["s"] + [full(Level(LEAF), rules)], "t": paper["t"]})
            self.yes(KEYS, ANY, verdict_paper(KEYS, rules, ANY), rules)

    def test_a_room_too_large(self):
        one = full(Level(LEAF), RULES)
        for room in (LARGE_ROOM, DOOR_ROOM):
            self.no(Grammar([END, ("t", room, ())], "s"), ANY, {"s": [one], "t": []})
            self.no(Grammar([END, ("t", room, ())], "s"), ANY, {"s": [one], "t": [one]})
        grammar = Grammar([END, ("t", MOUTH_ROOM, ("u",))], "s")
        self.yes(grammar, ANY, {"s": [one], "t": [], "u": []})
        self.no(grammar, ANY, {"s": [one], "t": [one], "u": [one]})
        shut = Full(none(RULES), {bag: [()] for bag in RULES.bags()})
        above = full_of(MOUTH_ROOM, RULES, [shut])
        self.yes(grammar, ANY, {"s": [one], "t": [above], "u": [shut]})
        self.no(grammar, ANY, {"s": [one], "t": [above], "u": [shut, one]})
        largest = Grammar([("s", FULL_ROOM, ())], "s")
        self.yes(largest, ANY, verdict_paper(largest, RULES, ANY))

    def test_large_papers(self):
        paper = verdict_paper(FULLEST, Rules(2), ANY)
        self.yes(FULLEST, ANY, paper, Rules(2))
        changed = copied(paper)
        changed["s"].pop()
        self.no(FULLEST, ANY, changed, Rules(2))

    def test_what_is_passed_stays_and_what_is_returned_is_new(self):
        paper = verdict_paper(KEYS, RULES, ANY)
        kept = copied(paper)
        is_verdict_paper(KEYS, RULES, ANY, paper)
        self.assertEqual(list(kept), list(paper))
        self.assertTrue(all(kept[name] == paper[name] for name in kept))
        paper["s"].clear()
        paper.clear()
        self.assertEqual(5, len(verdict_paper(KEYS, RULES, ANY)["s"]))
        self.assertEqual(chain(0), some(ROW, RULES, ANY))


class ErrorTest(unittest.TestCase):
    def test_in_their_order(self):
        large = Grammar([("s", LARGE_ROOM, ())], "s")
        for function in (every, some, verdict_paper, is_verdict_paper):
            more = (None,) if function is is_verdict_paper else ()
            for thing in anything():
                if not isinstance(thing, Grammar):
                    wanted_error(self, BadGrammar, "value", thing, function, thing, None, None, *more)
                if not isinstance(thing, Rules):
                    wanted_error(self, BadRules, "value", thing, function, large, thing, None, *more)
                if thing not in (SOLVED, ("not", ("idle", NOTHING))):
                    wanted_error(self, BadWish, "value", thing, function, large, RULES, thing, *more)
            for wish in (("solved", (2, 0)), negated(SOLVED, 6), ("solved", (False, 0))):
                wanted_error(self, BadWish, "value", wish, function, large, RULES, wish, *more)

    def test_too_many(self):
        for function in (every, some, verdict_paper):
            for wish in (ANY, NONE, SOLVED):
                wanted_error(self, TooMany, None, None, function, Grammar([("s", LARGE_ROOM, ())], "s"), RULES, wish)
                wanted_error(self, TooMany, None, None, function, Grammar([END, ("t", DOOR_ROOM, ())], "s"), RULES, wish)
                wanted_error(self, TooMany, None, None, function, MANY, Rules(2), wish)
            grammar = Grammar([END, ("t", MOUTH_ROOM, ("u",))], "s")
            function(grammar, RULES, SOLVED)
        self.assertIsNone(every(FULLEST, Rules(2), ANY))


if __name__ == "__main__":
    unittest.main()
