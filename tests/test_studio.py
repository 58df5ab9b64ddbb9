import random
import unittest

from anything import anything, is_whole, wanted_error
from naive import ALL_RULES
from roomsthrough.errors import BadGrammar, BadIndex, BadRules, BadWish, MazeError, NoPaper, NothingDone, TooMany
from roomsthrough.grammars import Grammar
from roomsthrough.rooms import Room
from roomsthrough.rules import Rules
from roomsthrough.studio import Studio
from roomsthrough.verdicts import every, is_verdict_paper, some, verdict_paper
from test_grammars import END, FORK, LEAF, LINE, ROW, TREE, random_grammar
from test_middle import LARGE_ROOM
from test_verdicts import ANY, KEYS, NONE, NOTHING, SOLVED
from test_wishes import random_wish

RULES, TWO = Rules(), Rules(2)
KEY = ("s", Room(["@a1"]), ("s",))


def told(function, *arguments):
    """What a call returns, or the name of the error that it raises."""
    try:
        return function(*arguments)
    except MazeError as error:
        return error.__class__.__name__


class DeedTest(unittest.TestCase):
    def same(self, studio, rows, start="s", rules=RULES):
        self.assertTrue(studio.grammar == Grammar(rows, start))
        self.assertTrue(studio.rules == rules)

    def test_what_it_begins_with(self):
        studio = Studio(ROW, TWO)
        self.assertTrue(studio.grammar == ROW and studio.rules == TWO)
        wanted_error(self, NothingDone, None, None, studio.undo)

    def test_put_at_each_place(self):
        rows = list(TREE.rows)
        for at in range(len(rows) + 1):
            studio = Studio(TREE, RULES)
            self.assertIsNone(studio.put(at, KEY))
            self.same(studio, rows[:at] + [KEY] + rows[at:])
            self.assertIsNone(studio.undo())
            self.same(studio, rows)
            wanted_error(self, NothingDone, None, None, studio.undo)

    def test_drop_at_each_place(self):
        rows = list(TREE.rows)
        for at in range(len(rows)):
            studio = Studio(TREE, RULES)
            self.assertIsNone(studio.drop(at))
            self.same(studio, rows[:at] + rows[at + 1:])
            self.assertIsNone(studio.undo())
            self.same(studio, rows)

    def test_rules_and_start(self):
        studio = Studio(TREE, RULES)
        self.assertIsNone(studio.rules_are(TWO))
        self.same(studio, TREE.rows, "s", TWO)
        self.assertIsNone(studio.begin_at("t"))
        self.same(studio, TREE.rows, "t", TWO)
        studio.begin_at("new")
        self.same(studio, TREE.rows, "new", TWO)
        studio.undo()
        studio.undo()
        self.same(studio, TREE.rows, "s", TWO)
        studio.undo()
        self.same(studio, TREE.rows)
        wanted_error(self, NothingDone, None, None, studio.undo)

    def test_deeds_that_change_nothing_are_taken_back_one_by_one(self):
        studio = Studio(ROW, RULES)
        studio.put(2, KEY)
        studio.rules_are(Rules())
        studio.begin_at("s")
        self.same(studio, [*ROW.rows, KEY])
        studio.undo()
        studio.undo()
        self.same(studio, [*ROW.rows, KEY])
        studio.undo()
        self.same(studio, ROW.rows)

    def test_indexes_at_both_ends_and_beyond(self):
        for grammar in (ROW, TREE, Grammar([END], "s")):
            many = len(grammar.rows)
            studio = Studio(grammar, RULES)
            for thing in anything() + [many, many + 1, -many, True, False]:
                if not is_whole(thing) or not 0 <= thing <= many:
                    wanted_error(self, BadIndex, "at", thing, studio.put, thing, KEY)
                    wanted_error(self, BadIndex, "at", thing, studio.put, thing, None)
                if not is_whole(thing) or not 0 <= thing < many:
                    wanted_error(self, BadIndex, "at", thing, studio.drop, thing)
            self.same(studio, grammar.rows)
            wanted_error(self, NothingDone, None, None, studio.undo)

    def test_one_production_and_ten_of_them(self):
        studio = Studio(Grammar([END], "s"), RULES)
        wanted_error(self, BadGrammar, "value", -1, studio.drop, 0)
        wanted_error(self, BadIndex, "at", 1, studio.drop, 1)
        for many in range(1, 10):
            studio.put(many, KEY)
        self.same(studio, [END] + [KEY] * 9)
        for at in (0, 5, 10):
            wanted_error(self, BadGrammar, "value", -1, studio.put, at, KEY)
            wanted_error(self, BadGrammar, "value", -1, studio.put, at, None)
        wanted_error(self, BadIndex, "at", 11, studio.put, 11, KEY)
        self.same(studio, [END] + [KEY] * 9)
        studio.drop(9)
        studio.put(0, KEY)
        self.same(studio, [KEY, END] + [KEY] * 8)

    def test_what_is_no_production(self):
        studio = Studio(TREE, RULES)
        for thing in anything():
            if thing != ("s", Room(["@"]), ()):
                for at in (0, 2, 5):
                    wanted_error(self, BadGrammar, "value", at, studio.put, at, thing)
        for thing in (list(KEY), ("s", LINE, ()), ("s", LINE, ["s"]), ("S", LEAF, ())):
            wanted_error(self, BadGrammar, "value", 1, studio.put, 1, thing)
        self.same(studio, TREE.rows)

    def test_five_and_six_names(self):
        rows = [("a", FORK, ("b", "c")), ("d", LINE, ("e",))]
        studio = Studio(Grammar(rows, "a"), RULES)
        studio.begin_at("e")
        wanted_error(self, BadGrammar, "value", -1, studio.put, 1, ("f", LEAF, ()))
        wanted_error(self, BadGrammar, "value", -1, studio.put, 0, ("a", LINE, ("f",)))
        wanted_error(self, BadGrammar, "value", -1, studio.begin_at, "f")
        self.same(studio, rows, "e")
        studio.drop(1)
        studio.begin_at("f")
        self.same(studio, rows[:1], "f")
        studio.put(0, ("g", LEAF, ()))
        wanted_error(self, BadGrammar, "value", -1, studio.put, 2, ("h", LEAF, ()))
        for _ in range(4):
            studio.undo()
        self.same(studio, rows, "a")

    def test_wrong_rules_and_starts_change_nothing(self):
        studio = Studio(TREE, TWO)
        studio.drop(0)
        for thing in anything():
            if not isinstance(thing, Rules):
                wanted_error(self, BadRules, "value", thing, studio.rules_are, thing)
            if thing not in ("a", "u", "star", "stars", "solved"):
                wanted_error(self, BadGrammar, "value", 4, studio.begin_at, thing)
        self.same(studio, TREE.rows[1:], "s", TWO)
        studio.undo()
        self.same(studio, TREE.rows, "s", TWO)
        wanted_error(self, NothingDone, None, None, studio.undo)

    def test_a_grammar_that_was_told_stays_as_it_was(self):
        studio = Studio(ROW, RULES)
        first = studio.grammar
        studio.put(0, KEY)
        second = studio.grammar
        studio.drop(1)
        studio.begin_at("t")
        self.assertTrue(first == Grammar(ROW.rows, "s") and ROW == first)
        self.assertTrue(second == Grammar([KEY, *ROW.rows], "s"))
        production = ("t", Room(["@."]), ())
        studio.put(0, production)
        studio.undo()
        self.assertTrue(studio.grammar == Grammar([KEY, END], "t"))

    def test_random_deeds_and_undos(self):
        chance = random.Random(381)
        for number in range(40):
            grammar, rules = random_grammar(chance, 6), ALL_RULES[number % 8]
            studio, past = Studio(grammar, rules), []
            rows, start = list(grammar.rows), grammar.start
            for _ in range(30):
                kept = (list(rows), start, rules)
                deed, at = chance.randrange(5), chance.randint(-1, 11)
                try:
                    if deed == 0:
                        production = chance.choice(random_grammar(chance, 3, ("s", "t", "x")).rows)
                        studio.put(at, production)
                        rows.insert(at, production)
                    elif deed == 1:
                        studio.drop(at)
                        rows.pop(at)
                    elif deed == 2:
                        start = chance.choice(("s", "t", "y", "Z", None))
                        studio.begin_at(start)
                    elif deed == 3:
                        rules = chance.choice([*ALL_RULES, None])
                        studio.rules_are(rules)
                    else:
                        studio.undo()
                        rows, start, rules = past.pop()
                        kept = None
                except MazeError:
                    rows, start, rules = kept
                else:
                    past += [kept] if kept else []
                self.assertTrue(studio.grammar == Grammar(rows, start))
                self.assertTrue(studio.rules == rules)
            for rows, start, rules in reversed(past):
                studio.undo()
                self.assertTrue(studio.grammar == Grammar(rows, start) and studio.rules == rules)
            wanted_error(self, NothingDone, None, None, studio.undo)


class QuestionTest(unittest.TestCase):
    def test_by_hand(self):
        studio = Studio(KEYS, RULES)
        self.assertEqual((1, ()), studio.every(SOLVED))
        self.assertEqual((0, ((1, ()),)), studio.some(SOLVED))
        wanted_error(self, NoPaper, None, None, studio.paper, SOLVED)
        studio.drop(0)
        studio.drop(0)
        self.assertIsNone(studio.every(SOLVED))
        paper = studio.paper(SOLVED)
        self.assertIs(True, studio.still(paper, SOLVED))
        studio.put(0, ("s", LINE, ("s",)))
        self.assertIs(True, studio.still(paper, SOLVED))
        studio.put(0, ("s", Room(["@"]), ()))
        self.assertIs(False, studio.still(paper, SOLVED))
        studio.undo()
        self.assertIs(True, studio.still(paper, SOLVED))
        studio.rules_are(TWO)
        self.assertIs(False, studio.still(paper, SOLVED))
        studio.undo()
        studio.begin_at("u")
        self.assertIs(False, studio.still(paper, SOLVED))
        self.assertIs(True, studio.still(studio.paper(NONE), NONE))

    def test_against_the_functions_for_the_grammar_made_anew(self):
        chance = random.Random(382)
        papers = 0
        for number in range(25):
            studio = Studio(random_grammar(chance, 3, ("s", "t"), 5), ALL_RULES[number % 8])
            paper = {}
            for _ in range(6):
                deed = chance.randrange(4)
                try:
                    if deed == 0:
                        studio.put(0, random_grammar(chance, 1, ("s", "t"), 5, "...a*A").rows[0])
                    elif deed == 1:
                        studio.drop(0)
                    elif deed == 2:
                        studio.begin_at(chance.choice("st"))
                    else:
                        studio.undo()
                except MazeError:
                    pass
                grammar = Grammar(list(studio.grammar.rows), studio.grammar.start)
                rules = Rules(studio.rules.cap, studio.rules.strong, studio.rules.pull)
                if len(grammar.rows) > 5:
                    break
                for wish in (SOLVED, random_wish(chance, rules, 2)):
                    self.assertEqual(told(every, grammar, rules, wish), told(studio.every, wish))
                    self.assertEqual(told(some, grammar, rules, wish), told(studio.some, wish))
                    found = told(studio.paper, wish)
                    self.assertTrue(told(verdict_paper, grammar, rules, wish) == found)
                    self.assertIs(is_verdict_paper(grammar, rules, wish, paper), studio.still(paper, wish))
                    if isinstance(found, dict):
                        paper = found
                        papers += 1
                        self.assertIs(True, studio.still(paper, wish))
        self.assertGreater(papers, 40)

    def test_wishes_that_are_none(self):
        studio = Studio(ROW, RULES)
        paper = studio.paper(SOLVED)
        for thing in anything() + [("solved", (2, 0))]:
            if thing not in (SOLVED, ("not", ("idle", NOTHING))):
                for asked in (studio.every, studio.some, studio.paper):
                    wanted_error(self, BadWish, "value", thing, asked, thing)
                wanted_error(self, BadWish, "value", thing, studio.still, paper, thing)
                wanted_error(self, BadWish, "value", thing, studio.still, None, thing)
            self.assertIs(False, studio.still(thing, SOLVED))
        studio.rules_are(TWO)
        self.assertIsNotNone(studio.every(("back", NOTHING, (2, 0))))

    def test_rooms_too_large(self):
        studio = Studio(ROW, RULES)
        paper = studio.paper(ANY)
        studio.put(0, ("s", LARGE_ROOM, ()))
        for asked in (studio.every, studio.some, studio.paper):
            wanted_error(self, TooMany, None, None, asked, ANY)
        self.assertIs(False, studio.still(paper, ANY))
        studio.undo()
        self.assertIs(True, studio.still(paper, ANY))


class ErrorTest(unittest.TestCase):
    def test_in_their_order(self):
        for thing in anything():
            if not isinstance(thing, Grammar):
                wanted_error(self, BadGrammar, "value", thing, Studio, thing, None)
            if not isinstance(thing, Rules):
                wanted_error(self, BadRules, "value", thing, Studio, ROW, thing)
            self.assertFalse(Studio(ROW, RULES) == thing)


if __name__ == "__main__":
    unittest.main()
