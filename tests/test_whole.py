"""The whole document once more: one level and one family of levels through all parts."""

import os
import random
import re
import unittest

from naive import ALL_RULES, random_room
from roomsthrough.books import beyond, book_paper, is_book_paper
from roomsthrough.costs import costs
from roomsthrough.counts import count, count_with, derivation_at
from roomsthrough.endless import least_in_row, row_ring, row_table
from roomsthrough.errors import NoPaper, TooMany
from roomsthrough.frailty import frail, is_safe, is_spoiler, options, spoiler
from roomsthrough.fulls import full, full_of, twins
from roomsthrough.grammars import Grammar, derivations, is_made, level_of
from roomsthrough.kin import is_parting, kin, parting
from roomsthrough.levels import Level, row_of
from roomsthrough.middle import table, table_of
from roomsthrough.papers import is_least_paper, least_paper, told_costs
from roomsthrough.playing import Play
from roomsthrough.plays import is_play, least, outcomes, walk, way
from roomsthrough.prices import cheapest, is_price_paper, price_paper
from roomsthrough.reaching import least_of, reached
from roomsthrough.rooms import Room
from roomsthrough.rules import Rules
from roomsthrough.studio import Studio
from roomsthrough.tables import then
from roomsthrough.texts import read_grammar, read_level, write_grammar, write_level
from roomsthrough.verdicts import every, is_verdict_paper, some, verdict_paper
from roomsthrough.wishes import is_wish, meets
from test_books import drawn as books_drawn
from test_grammars import LEAF, LINE, chain
from test_mirrors import exchanged_room, turned_about
from test_prices import drawn as prices_drawn

RULES = Rules()
NOTHING = (0, 0)
SOLVED = ("solved", NOTHING)
# From any room on a key can be taken along, and the last room needs it.
ROOMS = [
    (Room(["@.1"]), Level(Room(["@.*"]))), (Room(["@>1", "a.."]), Level(Room(["@A*"]))), (Room(["@A1", ".a."]), Level(Room(["@a*"]))),
    (Room(["1@o.", "...."]), Level(Room(["@o.*"]))), (Room(["A>b>1", "@###^", "B>a>."]), Level(Room(["@B*"]))),
]


def exchanged_wish(wish):
    """The wish with all bags turned about."""
    return (wish[0], *[exchanged_wish(part) if isinstance(part[0], str) else part[::-1] for part in wish[1:]])


def exchanged_grammar(grammar):
    return Grammar([(name, exchanged_room(room), names) for name, room, names in grammar.rows], grammar.start)


def mirrored_grammar(grammar):
    return Grammar([(name, room.mirrored(), names) for name, room, names in grammar.rows], grammar.start)


class ExampleTest(unittest.TestCase):
    def test_the_examples_of_the_readme(self):
        with open(os.path.join(os.path.dirname(os.path.dirname(__file__)), "README.md"), encoding="utf-8") as file:
            code = "\n".join(re.findall(r"```python\n(.*?)```", file.read(), re.DOTALL))
        known, told = {}, 0
        for line in code.split("\n"):
            found = re.match(r"(\S.*?) +# (.*)$", line)
            if found is None:
                exec(line, known)
                continue
            wanted, told = found.group(2), told + 1
            self.assertTrue(wanted.startswith(repr(eval(found.group(1), known)).replace("'", '"')), line)
        self.assertGreater(told, 15)

    def test_the_examples_of_the_document(self):
        level = Level(Room(["@a1"]), [Level(Room(["@A*"]))])
        rules = Rules()
        self.assertEqual(("won",), walk(level, rules, (0, 0), "rrirr"))
        self.assertEqual(((2, (), (1,), (1,), None), (0, (), (), (), (1, 0))), walk(level, rules, (0, 0), "rri"))
        self.assertEqual(5, least(level, rules, (0, 0), "star"))
        self.assertEqual(3, costs(level, rules)[((0, 0), (1, 0))])
        self.assertEqual([(1, 0)], table(level, rules).outcomes((1, 0)))
        self.assertEqual([(0, 0), (1, 0), "star"], table(level, rules).outcomes((0, 0)))
        self.assertEqual("rrio", spoiler(level, rules, (0, 0)))
        self.assertEqual([((0, 0),), ((1, 0),)], frail(level, rules)[(0, 0)])

    def test_one_level_through_all_parts(self):
        grammar = read_grammar("start s\ns @a1 t\nt 1@2 u k\nu @A* \nk @.\nk @B*".replace("* ", "*"))
        rules = Rules(2)
        made = some(grammar, rules, SOLVED)
        level = level_of(grammar, made)
        self.assertTrue(read_level(write_level(level)) == level and read_grammar(write_grammar(grammar)) == grammar)
        one = full(level, rules)
        self.assertTrue(any(one == other for other in reached(grammar, rules)["s"]))
        self.assertEqual(made, least_of(grammar, rules, "s", one))
        self.assertTrue(meets(one, SOLVED) and one.base == table(level, rules) and one.weak() == frail(level, rules))
        self.assertTrue(one == full_of(level.room, rules, [full(child, rules) for child in level.children]))
        self.assertTrue(one.base == table_of(level.room, rules, [table(child, rules) for child in level.children]))
        told = told_costs(level, rules, least_paper(level, rules))
        self.assertEqual(costs(level, rules), told)
        play = Play(level, rules)
        self.assertEqual(told[(NOTHING, "star")], play.left())
        while play.hint() is not None:
            play.go(play.hint())
        self.assertEqual(len(way(level, rules, NOTHING, "star")), len(play.letters))
        self.assertTrue(is_play(level, rules, NOTHING, play.letters))
        self.assertFalse(is_safe(level, rules, NOTHING))
        spoilt = Play(level, rules)
        spoilt.go(spoiler(level, rules, NOTHING))
        self.assertTrue(spoilt.spoilt() and is_spoiler(level, rules, NOTHING, spoilt.letters))
        price, cheap = cheapest(grammar, rules, SOLVED, [1] * 5)
        self.assertEqual((level.rooms, level.rooms), (price, level_of(grammar, cheap).rooms))
        many = count_with(grammar, rules, SOLVED, level.rooms)
        self.assertIn(made, [derivation_at(grammar, rules, SOLVED, level.rooms, at) for at in range(many)])
        self.assertEqual(made, Studio(grammar, rules).some(SOLVED))


class LongLevelsTest(unittest.TestCase):
    def test_sixty_rooms_one_behind_the_other(self):
        for at, (room, end) in enumerate(ROOMS):
            level = row_of(room, end, 59)
            rules = ALL_RULES[at % 4]
            self.assertEqual((60, 60), (level.rooms, level.depth))
            told = costs(level, rules)
            paper = least_paper(level, rules)
            self.assertIs(True, is_least_paper(level, rules, paper))
            self.assertEqual(told, told_costs(level, rules, paper))
            self.assertTrue(table(level, rules) == row_table(room, end, rules, 59))
            for bag in rules.bags():
                self.assertEqual([outcome for one, outcome in told if one == bag], outcomes(level, rules, bag))
                for outcome in outcomes(level, rules, bag):
                    letters = way(level, rules, bag, outcome)
                    self.assertEqual(told[(bag, outcome)], len(letters))
                    wanted = ("won",) if outcome == "star" else ("out", outcome)
                    self.assertEqual(wanted, walk(level, rules, bag, letters))
                    self.assertEqual(told[(bag, outcome)], least_in_row(room, end, rules, bag, outcome, 59))
                self.follow(level, rules, bag, told.get((bag, "star")))
            self.assertTrue(read_level(write_level(level)) == level)
            self.assertTrue(full(level, rules).base == table(level, rules))

    def follow(self, level, rules, bag, many):
        play = Play(level, rules, bag)
        self.assertEqual(many, play.left())
        self.assertIs("star" not in options(level, rules, bag, ""), play.spoilt())
        while play.hint() is not None:
            play.go(play.hint())
        self.assertEqual(many or 0, len(play.letters))

    def test_tables_one_after_the_other(self):
        """A room whose mouth lies at the entry lets just what the row behind it lets, or its own bag."""
        for room, end in ROOMS:
            for number in (1, 2, 17, 58):
                one = row_table(room, end, RULES, number)
                self.assertTrue(one == table_of(room, RULES, [row_table(room, end, RULES, number - 1)]))
                for bag in RULES.bags():
                    self.assertIn(bag, one.outcomes(bag))
                self.assertTrue(then(one, one).within(then(one, one) | one))


class RowsAsGrammarsTest(unittest.TestCase):
    def test_rows_of_rooms(self):
        for at, (room, end) in enumerate(ROOMS):
            rules = ALL_RULES[at % 4]
            grammar = Grammar([("s", room, ("s",)), ("s", end.room, ())], "s")
            ahead, ring = row_ring(room, end, rules)
            found = reached(grammar, rules)["s"]
            tables = [row_table(room, end, rules, number) for number in range(ahead + ring)]
            for one in found:
                self.assertTrue(any(one.base == other for other in tables))
            for other in tables:
                self.assertTrue(any(one.base == other for one in found))
            self.assertGreaterEqual(len(found), ahead + ring)
            for bag in rules.bags():
                self.check(room, end, rules, grammar, bag, ahead + ring)

    def check(self, room, end, rules, grammar, bag, many):
        wish = ("solved", bag)
        good = [row_table(room, end, rules, number).lets(bag, "star") for number in range(60)]
        first = [number for number in range(60) if good[number]][:1]
        self.assertEqual([chain(number) for number in first] or [None], [some(grammar, rules, wish)])
        wrong = [number for number in range(60) if not good[number]][:1]
        self.assertEqual([chain(number) for number in wrong] or [None], [every(grammar, rules, wish)])
        self.assertEqual([(3 * number + 5, chain(number)) for number in first] or [None], [cheapest(grammar, rules, wish, [3, 5])])
        for rooms in (1, 2, 3, 30, 60):
            self.assertEqual(int(good[rooms - 1]), count_with(grammar, rules, wish, rooms))
            told = least_in_row(room, end, rules, bag, "star", rooms - 1)
            self.assertEqual(good[rooms - 1], told is not None)
            if good[rooms - 1]:
                self.assertEqual(chain(rooms - 1), derivation_at(grammar, rules, wish, rooms, 0))
        for number in range(min(many, 8)):
            wish = ("both", wish, ("not", ("idle", bag))) if number % 2 else wish
            lost = beyond(grammar, rules, ALL_RULES[number % 4], wish) if rules.cap == 1 else None
            if lost is not None:
                level = level_of(grammar, lost)
                self.assertTrue(meets(full(level, rules), wish))
                self.assertFalse(meets(full(level, ALL_RULES[number % 4]), wish))

    def test_great_rows(self):
        room, end = ROOMS[4]
        for number in (10 ** 17, 10 ** 18 - 1):
            wins = [bag for bag in RULES.bags() if row_table(room, end, RULES, number).lets(bag, "star")]
            self.assertEqual([(0, 1), (1, 1)] if number % 2 == 0 else [(1, 0), (1, 1)], wins)
            for bag in RULES.bags():
                self.assertEqual(bag in wins, least_in_row(room, end, RULES, bag, "star", number) is not None)


class OtherSideTest(unittest.TestCase):
    def test_grammars_mirrored(self):
        chance = random.Random(391)
        for number in range(40):
            grammar, rules, wish, prices, found = prices_drawn(chance, number, 8)
            other = mirrored_grammar(grammar)
            self.assertEqual(every(grammar, rules, wish), every(other, rules, wish))
            self.assertEqual(some(grammar, rules, wish), some(other, rules, wish))
            self.assertEqual(cheapest(grammar, rules, wish, prices), cheapest(other, rules, wish, prices))
            for name in found:
                classes = kin(grammar, rules, wish, name)
                self.assertTrue(classes == kin(other, rules, wish, name))
                for one in [row[0] for row in classes][1:]:
                    context = parting(grammar, rules, wish, name, classes[0][0], one)
                    self.assertIs(True, is_parting(other, rules, wish, name, classes[0][0], one, context))
                    self.assertEqual(len(context), len(parting(other, rules, wish, name, classes[0][0], one)))
            self.assertEqual(count(grammar, 9), count(other, 9))
            self.assertEqual(count_with(grammar, rules, wish, 9), count_with(other, rules, wish, 9))
            text = write_grammar(other)
            self.assertTrue(read_grammar(text) == other and mirrored_grammar(read_grammar(text)) == grammar)

    def test_books_mirrored_and_with_the_colours_exchanged(self):
        chance = random.Random(392)
        papers = 0
        for number in range(50):
            grammar, rules, other, wish = books_drawn(chance, number)
            mirrored, exchanged = mirrored_grammar(grammar), exchanged_grammar(grammar)
            try:
                lost = beyond(grammar, rules, other, wish)
            except TooMany:
                continue
            self.assertEqual(lost, beyond(mirrored, rules, other, wish))
            self.assertEqual(lost, beyond(exchanged, rules, other, exchanged_wish(wish)))
            try:
                paper = book_paper(grammar, rules, other, wish)
            except NoPaper:
                continue
            papers += 1
            self.assertIs(True, is_book_paper(mirrored, rules, other, wish, paper))
            self.assertTrue(paper == book_paper(mirrored, rules, other, wish))
            back = book_paper(exchanged, rules, other, exchanged_wish(wish))
            self.assertEqual([len(row) for row in paper.values()], [len(row) for row in back.values()])
        self.assertGreater(papers, 15)

    def test_colours_exchanged(self):
        chance = random.Random(393)
        for number in range(24):
            grammar, rules, wish, prices, found = prices_drawn(chance, number, 8)
            other, turned = exchanged_grammar(grammar), exchanged_wish(wish)
            self.assertTrue(is_wish(rules, turned))
            self.assertEqual(every(grammar, rules, wish), every(other, rules, turned))
            self.assertEqual(some(grammar, rules, wish), some(other, rules, turned))
            told, back = cheapest(grammar, rules, wish, prices), cheapest(other, rules, turned, prices)
            self.assertEqual(told and told[0], back and back[0])
            self.assertEqual(count_with(grammar, rules, wish, 11), count_with(other, rules, turned, 11))
            many = count_with(grammar, rules, wish, 7)
            if many:
                self.assertEqual(derivation_at(grammar, rules, wish, 7, many - 1), derivation_at(other, rules, turned, 7, many - 1))
            for name in found:
                sizes = [len(row) for row in kin(grammar, rules, wish, name)]
                self.assertEqual(sizes, [len(row) for row in kin(other, rules, turned, name)])
            numbers = [(name, number) for name, _, number in price_paper(grammar, rules, wish, prices)]
            self.assertEqual(numbers, [(name, number) for name, _, number in price_paper(other, rules, turned, prices)])

    def test_plays_mirrored_and_with_the_colours_exchanged(self):
        chance = random.Random(394)
        turned = {"l": "r", "r": "l", "L": "R", "R": "L"}
        for number in range(40):
            rules = ALL_RULES[number % 8]
            room, inner = random_room(chance, 1, 9, "...*oabA^v<>"), random_room(chance, 0, 9, "...*oabA^v<>")
            bag = chance.choice(rules.bags())
            play = Play(Level(room, [Level(inner)]), rules, bag)
            mirrored = Play(Level(room.mirrored(), [Level(inner.mirrored())]), rules, bag)
            exchanged = Play(Level(exchanged_room(room), [Level(exchanged_room(inner))]), rules, bag[::-1])
            for _ in range(25):
                letter = chance.choice("udlrio")
                for one, done in ((play, letter), (mirrored, turned.get(letter, letter)), (exchanged, letter)):
                    try:
                        one.go(done)
                    except ValueError:
                        pass
                self.assertEqual((play.left(), play.spoilt()), (mirrored.left(), mirrored.spoilt()))
                self.assertEqual((play.left(), play.spoilt()), (exchanged.left(), exchanged.spoilt()))
                self.assertEqual("".join(turned.get(mark, mark) for mark in play.letters), mirrored.letters)
                self.assertEqual(play.letters, exchanged.letters)
            if play.where()[0] == "out":
                self.assertEqual(turned_about(play.where()[1]), exchanged.where()[1])


class TwinTest(unittest.TestCase):
    def found_twins(self, rules):
        """Tuples of different rooms without mouths whose fulls are equal, by drawing many."""
        chance = random.Random(395)
        by_full, pairs = [], []
        for _ in range(300):
            room = random_room(chance, 0, 6, "...aAb*v<>")
            one = full_of(room, rules, [])
            for other, known in by_full:
                if known == one and other != room and other.mirrored() != room:
                    pairs.append((other, room))
                    break
            else:
                by_full.append((room, one))
        return pairs

    def test_a_room_in_the_place_of_a_twin(self):
        chance = random.Random(396)
        for number in range(4):
            rules = ALL_RULES[3 * number % 8]
            pairs = self.found_twins(rules)
            self.assertGreater(len(pairs), 10)
            for one, two in chance.sample(pairs, 5):
                self.assertIs(True, twins(one, two, rules))
                rows = [("s", random_room(chance, 1, 6, "..aA*b"), ("t",)), ("s", random_room(chance, 1, 6, "..aA*v"), ("s",)),
                        ("t", random_room(chance, 1, 5, "..aA"), ("t",)), ("s", LEAF, ())]
                grammar = Grammar([*rows, ("t", one, ())], "s")
                self.same(grammar, Grammar([*rows, ("t", two, ())], "s"), rules, [2, 3, 5, 7, 11])

    def test_a_room_with_a_mouth_in_the_place_of_another_one(self):
        """Where full_of of both rooms is equal for all fulls, nothing changes either."""
        for one, two in ((Room(["@1"]), Room(["1@"])), (Room(["@1", "##"]), Room(["@1"])), (Room(["@.1"]), Room(["1", ".", "@"]))):
            rows = [("s", Room(["@a"]), ()), ("s", LEAF, ()), ("s", Room(["1@2"]), ("s", "s"))]
            grammar = Grammar([*rows, ("s", one, ("s",))], "s")
            self.same(grammar, Grammar([*rows, ("s", two, ("s",))], "s"), RULES, [2, 3, 5, 7])

    def same(self, grammar, other, rules, prices):
        for wish in (SOLVED, ("safe", NOTHING), ("back", NOTHING, (1, 0)), ("not", ("idle", (1, 0)))):
            self.assertEqual(every(grammar, rules, wish), every(other, rules, wish))
            self.assertEqual(some(grammar, rules, wish), some(other, rules, wish))
            for name in grammar.names():
                self.assertTrue(kin(grammar, rules, wish, name) == kin(other, rules, wish, name))
            self.assertEqual([count_with(grammar, rules, wish, rooms) for rooms in (1, 2, 3, 20)],
                             [count_with(other, rules, wish, rooms) for rooms in (1, 2, 3, 20)])
            told = cheapest(grammar, rules, wish, prices)
            self.assertEqual(told, cheapest(other, rules, wish, prices))
            paper = price_paper(grammar, rules, wish, prices)
            self.assertTrue(paper == price_paper(other, rules, wish, prices))
            self.assertIs(told is None, is_price_paper(other, rules, wish, prices, None, paper))
            try:
                self.assertIs(True, is_verdict_paper(other, rules, wish, verdict_paper(grammar, rules, wish)))
            except NoPaper:
                self.assertIsNotNone(every(other, rules, wish))


class SameAnswerTest(unittest.TestCase):
    def test_the_same_call_gives_the_same_answer(self):
        """Also where the document leaves the choice free, and behind other calls."""
        chance = random.Random(397)
        for number in range(12):
            grammar, rules, wish, prices, found = prices_drawn(chance, number, 8)
            first = self.answers(grammar, rules, wish, prices, found)
            copy = Grammar([(name, Room(list(room.rows)), names) for name, room, names in grammar.rows], grammar.start)
            self.answers(mirrored_grammar(grammar), rules, wish, prices, found)
            self.assertTrue(first == self.answers(copy, rules, wish, prices, found))

    def answers(self, grammar, rules, wish, prices, found):
        told = [cheapest(grammar, rules, wish, prices), price_paper(grammar, rules, wish, prices)]
        for name, row in found.items():
            told.append(kin(grammar, rules, wish, name))
            told += [parting(grammar, rules, wish, name, row[0], one) for one in row]
        small = [level_of(grammar, made) for made in list(derivations(grammar, grammar.start, 3))[:4]]
        for level in small:
            play = Play(level, rules)
            told += [play.hint(), play.left(), way(level, rules, NOTHING, "star"), spoiler(level, rules, NOTHING)]
        for made in list(derivations(grammar, grammar.start, 3))[:4]:
            self.assertTrue(is_made(grammar, grammar.start, made))
        return told

    def test_lines_and_leaves(self):
        self.assertTrue(row_of(LINE, Level(LEAF), 3) == level_of(Grammar([("s", LINE, ("s",)), ("s", LEAF, ())], "s"), chain(3)))


if __name__ == "__main__":
    unittest.main()
