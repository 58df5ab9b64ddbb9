import itertools
import random
import unittest

from anything import anything, wanted_error
from naive import ALL_RULES, random_room
from roomsthrough.books import beyond, book_paper, is_book_paper
from roomsthrough.errors import BadGrammar, BadRules, BadWish, NoPaper, TooMany
from roomsthrough.fulls import Full, full, full_of
from roomsthrough.grammars import Grammar, derivations, is_made, level_of
from roomsthrough.levels import Level
from roomsthrough.middle import table_of
from roomsthrough.reaching import reached
from roomsthrough.rooms import Room
from roomsthrough.rules import Rules
from roomsthrough.tables import none, same
from roomsthrough.wishes import is_wish, meets
from test_fulls import random_full
from test_grammars import END, FORK, LEAF, LINE, ROW, TREE, chain, random_grammar
from test_middle import DOOR_ROOM, FULL_ROOM, LARGE_ROOM, MOUTH_ROOM
from test_reaching import FULLEST, MANY
from test_verdicts import ANY, NONE, NOTHING, SOLVED, copied, level_meets
from test_wishes import random_wish

WEAK, TWO, STRONG, PULL = Rules(), Rules(2), Rules(1, True), Rules(1, False, True)
SAFE = ("safe", NOTHING)
# Two keys at once, two crates in a row, a crate that has to be pulled: each level needs one other book.
NEEDS = [Room(["@aaAA*"]), Room(["@oop", "#g##", "#*##"]), Room(["o.p.g*", "#@####"])]
CRATES = "...ooxpgaaAA*"


def line_of(room):
    """A grammar whose least level is a row of two rooms."""
    return Grammar([("s", Room(["@.1"]), ("t",)), ("t", room, ())], "s")


def pairs_of(grammar, rules, other):
    """For each name the tuples (full, other full) of its made levels, by trying again and again."""
    found = {name: [] for name in grammar.names()}
    grows = True
    while grows:
        grows = False
        for name, room, names in grammar.rows:
            for row in itertools.product(*[list(found[inner]) for inner in names]):
                made = tuple(full_of(room, book, [pair[at] for pair in row]) for at, book in ((0, rules), (1, other)))
                if not any(made == pair for pair in found[name]):
                    found[name].append(made)
                    grows = True
    return found


def shown_by(grammar, rules, other, wish, paper):
    """Whether a dict from the names to lists of tuples of fulls is a book paper, from the words of the document."""
    for one, two in paper[grammar.start]:
        if meets(one, wish) and not meets(two, wish):
            return False
    for name, room, names in grammar.rows:
        for row in itertools.product(*[paper[inner] for inner in names]):
            made = tuple(full_of(room, book, [pair[at] for pair in row]) for at, book in ((0, rules), (1, other)))
            if not any(made == pair for pair in paper[name]):
                return False
    return True


def room_of_books(chance, mouths):
    """A room, drawn again until it hangs on the rules what can be had in it, if only often enough."""
    for _ in range(40):
        room = random_room(chance, mouths, 9, CRATES)
        tables = [table_of(room, book, [same(book)] * mouths) for book in (WEAK, STRONG, PULL, TWO)]
        rows = [[one.outcomes(bag) for bag in WEAK.bags()] for one in tables]
        if rows != [rows[0]] * 4:
            break
    return room


def telling_wish(chance, grammar, rules, other):
    """A wish that is one for both books; if it is found soon, one that some small level fulfils under the first alone."""
    least = rules if rules.cap < other.cap else other
    levels = [level_of(grammar, made) for made in itertools.islice(derivations(grammar, grammar.start, 3), 6)]
    fulls = [(full(level, rules), full(level, other)) for level in levels]
    for _ in range(60):
        bag = chance.choice(least.bags())
        simple = [("solved", bag), ("safe", bag), ("idle", bag), ("back", bag, chance.choice(least.bags()))]
        wish = chance.choice([*simple, *[("not", one) for one in simple], random_wish(chance, least)])
        if any(meets(one, wish) and not meets(two, wish) for one, two in fulls):
            break
    return wish


def drawn(chance, number):
    """A grammar, two books of rules and a wish that is one for both."""
    rules, other = ALL_RULES[number % 8], chance.choice(ALL_RULES)
    if number % 3 == 0:
        grammar = random_grammar(chance, 4, ("s", "t"), 7, "...aaAAbB*^<")
    else:
        rows = [("s", room_of_books(chance, 0), ()), ("s", room_of_books(chance, 1), (chance.choice("st"),)),
                ("t", room_of_books(chance, chance.randrange(2)), ("s",))]
        rows = [(name, room, names[:room.mouths]) for name, room, names in rows]
        chance.shuffle(rows)
        grammar = Grammar(rows[:chance.randint(1, 3)], chance.choice("sst"))
    return grammar, rules, other, telling_wish(chance, grammar, rules, other)


class BeyondTest(unittest.TestCase):
    def test_each_part_of_the_rules_by_hand(self):
        for room, more in zip(NEEDS, (TWO, STRONG, PULL)):
            grammar = line_of(room)
            for other in (WEAK, TWO, STRONG, PULL):
                wanted = None if other == more else (0, ((1, ()),))
                self.assertEqual(wanted, beyond(grammar, more, other, SOLVED))
                self.assertIsNone(beyond(grammar, WEAK, other, SOLVED))
                wanted = None if other != more else (0, ((1, ()),))
                self.assertEqual(wanted, beyond(grammar, WEAK, other, ("not", SOLVED)))

    def test_what_is_solved_stays_solved_and_what_is_safe_does_not(self):
        safe = [Room(["@oo.*", "....#"]), Room(["@.o*"]), Room(["@a.A*"])]
        lost = {"solved": 0, "safe": 0}
        for rules, other in itertools.product(ALL_RULES, repeat=2):
            if other.cap < rules.cap or other.strong < rules.strong or other.pull < rules.pull:
                continue
            for room in NEEDS + safe:
                lost["solved"] += beyond(line_of(room), rules, other, SOLVED) is not None
                lost["safe"] += beyond(Grammar([("s", room, ())], "s"), rules, other, SAFE) is not None
        self.assertEqual(0, lost["solved"])
        self.assertGreater(lost["safe"], 0)
        grammar = Grammar([("s", Room(["@oo.*", "....#"]), ()), ("s", LINE, ("s",))], "s")
        self.assertEqual((0, ()), beyond(grammar, WEAK, STRONG, SAFE))
        self.assertIsNone(beyond(grammar, STRONG, WEAK, SAFE))

    def test_random_books_that_let_more(self):
        chance = random.Random(301)
        compared = 0
        for number in range(50):
            grammar, rules, _, _ = drawn(chance, number)
            more = [book for book in ALL_RULES if (book.cap, book.strong, book.pull) != (rules.cap, rules.strong, rules.pull)]
            more = [book for book in more if book.cap >= rules.cap and book.strong >= rules.strong]
            for other in [book for book in more if book.pull >= rules.pull][:2]:
                for bag in rules.bags():
                    try:
                        self.assertIsNone(beyond(grammar, rules, other, ("solved", bag)))
                        self.assertIsNone(beyond(grammar, rules, other, ("back", bag, chance.choice(rules.bags()))))
                    except TooMany:
                        continue
                    compared += 1
        self.assertGreater(compared, 100)

    def test_one_book_twice(self):
        chance = random.Random(302)
        for number in range(30):
            grammar, rules, _, wish = drawn(chance, number)
            wish = wish if is_wish(rules, wish) else SOLVED
            try:
                self.assertIsNone(beyond(grammar, rules, Rules(rules.cap, rules.strong, rules.pull), wish))
            except TooMany:
                continue

    def test_against_the_levels_of_small_derivations(self):
        chance = random.Random(303)
        seen = {"told": 0, "none": 0, "later": 0}
        for number in range(160):
            grammar, rules, other, wish = drawn(chance, number)
            try:
                found = beyond(grammar, rules, other, wish)
            except TooMany:
                continue
            small = list(itertools.islice(derivations(grammar, grammar.start, 4), 40))
            told = None
            for made in small:
                level = level_of(grammar, made)
                if level_meets(level, rules, wish) and not level_meets(level, other, wish):
                    told = made
                    break
            if told is not None:
                self.assertEqual(told, found)
                seen["told"] += 1
            elif found is None:
                seen["none"] += 1
            else:
                seen["later"] += 1
                self.assertNotIn(found, small)
                level = level_of(grammar, found)
                self.assertTrue(level_meets(level, rules, wish) and not level_meets(level, other, wish))
        self.assertGreater(seen["told"], 15)
        self.assertGreater(seen["none"], 50)

    def test_the_least_one_is_told(self):
        """The key that makes the difference stands deep within, behind productions that come later in the row."""
        grammar = Grammar([("s", Room(["@1"]), ("t",)), ("t", Room(["@.1"]), ("u",)), ("u", Room(["@a1"]), ("v",)),
                           ("v", Room(["@aAA*"]), ()), ("s", Room(["1@2"]), ("v", "u"))], "s")
        self.assertEqual((0, ((1, ((2, ((3, ()),)),)),)), beyond(grammar, TWO, WEAK, SOLVED))
        short = Grammar([*grammar.rows, ("t", Room(["@aaAA*"]), ())], "s")
        self.assertEqual((0, ((5, ()),)), beyond(short, TWO, WEAK, SOLVED))
        first = Grammar([("s", Room(["@*"]), ()), *NEEDS_ROWS], "s")
        self.assertEqual((1, ()), beyond(first, TWO, WEAK, SOLVED))
        self.assertEqual((2, ()), beyond(first, STRONG, WEAK, SOLVED))
        self.assertEqual((3, ()), beyond(first, PULL, WEAK, SOLVED))
        self.assertEqual((1, ()), beyond(first, Rules(2, True, True), WEAK, SOLVED))

    def test_nothing_is_made(self):
        for grammar in (Grammar([END], "t"), Grammar([("s", LINE, ("s",))], "s")):
            for wish in (ANY, NONE, SOLVED):
                self.assertIsNone(beyond(grammar, TWO, WEAK, wish))
                paper = book_paper(grammar, TWO, WEAK, wish)
                self.assertEqual([], paper[grammar.start])
                self.assertIs(True, is_book_paper(grammar, TWO, WEAK, wish, paper))

    def test_more_rooms_than_a_level_can_have(self):
        """Each room takes one key more out of a long row; two are carried at once under one of the books alone."""
        rows = [("s", Room(["@.1"]), ("s",)), ("s", Room(["@aaAA*"]), ())]
        self.assertEqual((1, ()), beyond(Grammar(rows, "s"), TWO, WEAK, SOLVED))


NEEDS_ROWS = [("s", room, ()) for room in NEEDS]


class PaperTest(unittest.TestCase):
    def test_the_reached_tuples_or_no_paper(self):
        chance = random.Random(311)
        seen = {True: 0, False: 0}
        for number in range(100):
            grammar, rules, other, wish = drawn(chance, number)
            try:
                holds = beyond(grammar, rules, other, wish) is None
            except TooMany:
                wanted_error(self, TooMany, None, None, book_paper, grammar, rules, other, wish)
                continue
            seen[holds] += 1
            if not holds:
                wanted_error(self, NoPaper, None, None, book_paper, grammar, rules, other, wish)
                continue
            paper = book_paper(grammar, rules, other, wish)
            self.assertIs(True, is_book_paper(grammar, rules, other, wish, paper))
            self.assertEqual(grammar.names(), list(paper))
            if sum(map(len, paper.values())) > 14:
                continue
            wanted = pairs_of(grammar, rules, other)
            for name in wanted:
                self.assertIsInstance(paper[name], list)
                self.assertEqual(len(wanted[name]), len(paper[name]))
                for pair in paper[name]:
                    self.assertIsInstance(pair, tuple)
                    self.assertTrue(any(pair == told for told in wanted[name]))
        self.assertGreater(seen[True], 50)
        self.assertGreater(seen[False], 10)

    def test_papers_changed_at_one_place(self):
        chance = random.Random(312)
        seen = {True: 0, False: 0}
        for number in range(90):
            grammar, rules, other, wish = drawn(chance, number)
            try:
                paper = book_paper(grammar, rules, other, wish)
            except (NoPaper, TooMany):
                continue
            if sum(map(len, paper.values())) > 12:
                continue
            for _ in range(6):
                changed = self.changed(chance, copied(paper), rules, other)
                wanted = shown_by(grammar, rules, other, wish, changed)
                self.assertIs(wanted, is_book_paper(grammar, rules, other, wish, changed))
                seen[wanted] += 1
        self.assertGreater(min(seen.values()), 40)

    def changed(self, chance, paper, rules, other):
        """A paper turned about, doubled, with a tuple left out, exchanged, put in, or with one full of another one."""
        names = [name for name in paper if paper[name]]
        name = chance.choice(names) if names else list(paper)[0]
        row, kind = paper[name], chance.randrange(6)
        at = chance.randrange(len(row)) if row else 0
        if kind == 0 or not row:
            row.reverse()
        elif kind == 1:
            row.extend(row[:])
        elif kind == 2:
            row.pop(at)
        elif kind == 3:
            row[at] = (row[at][0], random_full(chance, other))
        elif kind == 4:
            row.append((random_full(chance, rules), random_full(chance, other)))
        else:
            row.append((row[at][0], chance.choice(row)[1]))
        return paper

    def test_more_tuples_than_are_reached(self):
        """What is put in may be of no level, as long as all that it leads to is there, too."""
        grammar = Grammar([("s", LEAF, ()), ("t", LINE, ("s",))], "s")
        paper = book_paper(grammar, WEAK, TWO, SOLVED)
        shut, other = Full(none(WEAK), {bag: [()] for bag in WEAK.bags()}), Full(none(TWO), {bag: [()] for bag in TWO.bags()})
        paper["s"].append((shut, other))
        self.assertIs(False, is_book_paper(grammar, WEAK, TWO, SOLVED, paper))
        paper["t"].append((full_of(LINE, WEAK, [shut]), full_of(LINE, TWO, [other])))
        self.assertIs(True, is_book_paper(grammar, WEAK, TWO, SOLVED, paper))
        paper["t"].append((shut, other))
        self.assertIs(True, is_book_paper(grammar, WEAK, TWO, SOLVED, paper))
        self.assertIs(False, is_book_paper(grammar, WEAK, TWO, ("not", SOLVED), {**paper, "s": paper["s"][:1] + [
            (shut, full(Level(LEAF), TWO))]}))
        self.assertIs(True, is_book_paper(grammar, WEAK, TWO, SOLVED, {**paper, "s": paper["s"] + [
            (shut, full(Level(LEAF), TWO))], "t": paper["t"] + [(full_of(LINE, WEAK, [shut]), paper["t"][0][1])]}))

    def test_things_of_any_kind(self):
        paper = book_paper(ROW, WEAK, TWO, SOLVED)
        for thing in anything():
            self.assertIs(False, is_book_paper(ROW, WEAK, TWO, SOLVED, thing))
            self.assertIs(False, is_book_paper(ROW, WEAK, TWO, SOLVED, {"s": thing}) and thing != [])
            self.assertIs(False, is_book_paper(ROW, WEAK, TWO, SOLVED, {"s": paper["s"] + [thing]}))
            self.assertIs(False, is_book_paper(ROW, WEAK, TWO, SOLVED, {"s": paper["s"] + [(paper["s"][0][0], thing)]}))
            self.assertIs(False, is_book_paper(ROW, WEAK, TWO, SOLVED, {"s": paper["s"] + [(thing, paper["s"][0][1])]}))
            if isinstance(thing, (str, int, tuple, type(None))) and thing != "s":
                try:
                    self.assertIs(False, is_book_paper(ROW, WEAK, TWO, SOLVED, {**paper, thing: []}))
                    self.assertIs(False, is_book_paper(ROW, WEAK, TWO, SOLVED, {thing: paper["s"]}))
                except TypeError:
                    pass

    def test_names_and_kinds(self):
        paper = book_paper(TREE, WEAK, TWO, SOLVED)
        one, two = paper["s"][0]
        self.assertIs(True, is_book_paper(TREE, WEAK, TWO, SOLVED, {"t": paper["t"], "s": paper["s"]}))
        for wrong in (
            {"s": paper["s"]}, {**paper, "u": []}, {**paper, "u": paper["s"]}, {"s": paper["s"], "u": paper["t"]},
            {**paper, "s": tuple(paper["s"])}, {**paper, "s": dict(enumerate(paper["s"]))}, list(paper.items()),
            {**paper, "s": [list(pair) for pair in paper["s"]]}, {**paper, "s": [pair[::-1] for pair in paper["s"]]},
            {**paper, "s": paper["s"] + [(one,)]}, {**paper, "s": paper["s"] + [(one, two, two)]},
            {**paper, "s": paper["s"] + [()]}, {**paper, "s": paper["s"] + [one]}, {**paper, "s": [(one, one)]},
            {**paper, "s": paper["s"] + [(one, one)]}, {**paper, "s": paper["s"] + [(two, two)]}, {}, {"s": [], "t": []},
        ):
            self.assertIs(False, is_book_paper(TREE, WEAK, TWO, SOLVED, wrong))

    def test_papers_of_other_rules(self):
        books = [WEAK, TWO, STRONG, PULL]
        for rules, other in itertools.product(books, repeat=2):
            paper = book_paper(ROW, rules, other, SOLVED)
            for one, two in itertools.product(books, repeat=2):
                wanted = one == rules and two == other
                self.assertIs(wanted, is_book_paper(ROW, one, two, SOLVED, paper))

    def test_the_same_paper_for_other_wishes(self):
        grammar = line_of(NEEDS[0])
        paper = book_paper(grammar, WEAK, TWO, SOLVED)
        self.assertIs(True, is_book_paper(grammar, WEAK, TWO, ANY, paper))
        self.assertIs(True, is_book_paper(grammar, WEAK, TWO, NONE, paper))
        self.assertIs(False, is_book_paper(grammar, WEAK, TWO, ("not", SOLVED), paper))

    def test_rooms_too_large(self):
        one = (full(Level(LEAF), WEAK), full(Level(LEAF), TWO))
        for room in (LARGE_ROOM, DOOR_ROOM):
            grammar = Grammar([END, ("t", room, ())], "s")
            self.assertIs(False, is_book_paper(grammar, WEAK, TWO, ANY, {"s": [one], "t": [one]}))
        grammar = Grammar([END, ("t", MOUTH_ROOM, ("u",))], "s")
        self.assertIs(True, is_book_paper(grammar, WEAK, WEAK, ANY, {"s": [one[:1] * 2], "t": [], "u": []}))
        self.assertIs(False, is_book_paper(grammar, WEAK, WEAK, ANY, {"s": [one[:1] * 2], "t": [], "u": [one[:1] * 2]}))
        largest = Grammar([("s", FULL_ROOM, ())], "s")
        paper = book_paper(largest, WEAK, WEAK, ANY)
        self.assertIs(True, is_book_paper(largest, WEAK, WEAK, ANY, paper))

    def test_a_room_too_large_under_one_of_the_books(self):
        """Who can pull gets the crates out of the corners again, so more states can be met."""
        room = Room(["..o#o#", "<....@", "..o..."])
        grammar = Grammar([END, ("t", room, ())], "s")
        small = [book for book in ALL_RULES if self.is_small(room, book)]
        self.assertEqual([book for book in ALL_RULES if not book.pull], small)
        for rules, other in itertools.product(ALL_RULES, repeat=2):
            if rules in small and other in small:
                self.assertIsNone(beyond(grammar, rules, other, SOLVED))
            else:
                wanted_error(self, TooMany, None, None, beyond, grammar, rules, other, SOLVED)
                wanted_error(self, TooMany, None, None, book_paper, grammar, rules, other, SOLVED)

    def is_small(self, room, rules):
        try:
            full_of(room, rules, [])
        except TooMany:
            return False
        return True

    def test_what_is_passed_stays_and_what_is_returned_is_new(self):
        paper = book_paper(TREE, WEAK, TWO, SOLVED)
        kept = copied(paper)
        is_book_paper(TREE, WEAK, TWO, SOLVED, paper)
        self.assertTrue(list(kept) == list(paper) and all(kept[name] == paper[name] for name in kept))
        paper["s"].clear()
        paper.clear()
        self.assertTrue(book_paper(TREE, WEAK, TWO, SOLVED) == kept)


class ErrorTest(unittest.TestCase):
    def test_in_their_order(self):
        large = Grammar([("s", LARGE_ROOM, ())], "s")
        for function in (beyond, book_paper, is_book_paper):
            more = (None,) if function is is_book_paper else ()
            for thing in anything():
                if not isinstance(thing, Grammar):
                    wanted_error(self, BadGrammar, "value", thing, function, thing, None, None, None, *more)
                if not isinstance(thing, Rules):
                    wanted_error(self, BadRules, "value", thing, function, large, thing, None, None, *more)
                    wanted_error(self, BadRules, "value", thing, function, large, WEAK, thing, None, *more)
                if thing not in (SOLVED, ("not", ("idle", NOTHING))):
                    wanted_error(self, BadWish, "value", thing, function, large, WEAK, TWO, thing, *more)

    def test_wishes_for_the_one_book_alone(self):
        large = Grammar([("s", LARGE_ROOM, ())], "s")
        for function in (beyond, book_paper, is_book_paper):
            more = (None,) if function is is_book_paper else ()
            for wish in (("solved", (2, 0)), ("not", ("back", NOTHING, (0, 2))), ("both", SOLVED, ("idle", (2, 2)))):
                self.assertTrue(is_wish(TWO, wish))
                wanted_error(self, BadWish, "value", wish, function, large, TWO, WEAK, wish, *more)
                wanted_error(self, BadWish, "value", wish, function, large, WEAK, TWO, wish, *more)
                self.assertIsNone(beyond(ROW, TWO, Rules(2, True), wish))

    def test_too_many(self):
        for function in (beyond, book_paper):
            wanted_error(self, TooMany, None, None, function, Grammar([("s", LARGE_ROOM, ())], "s"), WEAK, TWO, ANY)
            wanted_error(self, TooMany, None, None, function, Grammar([END, ("t", DOOR_ROOM, ())], "s"), TWO, WEAK, ANY)
            wanted_error(self, TooMany, None, None, function, MANY, TWO, TWO, ANY)
            wanted_error(self, TooMany, None, None, function, MANY, WEAK, TWO, ANY)
            wanted_error(self, TooMany, None, None, function, MANY, TWO, WEAK, ANY)

    def test_more_than_three_hundred_tuples_of_fewer_fulls(self):
        """Under each of the books alone fewer than 300 fulls are reached; the judge walks papers of any size."""
        grammar = Grammar(MANY.rows[:-1], "s")
        for rules, other in ((TWO, WEAK), (WEAK, TWO)):
            for book in (rules, other):
                self.assertLess(sum(map(len, reached(grammar, book).values())), 300)
            for function in (beyond, book_paper):
                wanted_error(self, TooMany, None, None, function, grammar, rules, other, ANY)
            paper = self.all_tuples(grammar, rules, other)
            self.assertEqual(333, sum(map(len, paper.values())))
            self.assertIs(True, is_book_paper(grammar, rules, other, ANY, paper))
            paper["s"].pop(len(paper["s"]) // 2)
            self.assertIs(False, is_book_paper(grammar, rules, other, ANY, paper))

    def all_tuples(self, grammar, rules, other):
        """All tuples that are reached, by going on from the new ones; no room of the grammar has two mouths."""
        paper, seen, new = {name: [] for name in grammar.names()}, set(), [(None, ())]
        while new:
            inner, pairs = new.pop()
            for name, room, names in grammar.rows:
                if names == ((inner,) if pairs else ()):
                    made = tuple(full_of(room, book, [pair[at] for pair in pairs]) for at, book in ((0, rules), (1, other)))
                    key = (name, made[0].shape, made[1].shape)
                    if key not in seen:
                        seen.add(key)
                        paper[name].append(made)
                        new.append((name, (made,)))
        return paper

    def test_just_three_hundred_tuples(self):
        paper = book_paper(FULLEST, TWO, TWO, ANY)
        self.assertEqual(300, sum(map(len, paper.values())))
        self.assertTrue(all(one == two for row in paper.values() for one, two in row))
        self.assertIs(True, is_book_paper(FULLEST, TWO, TWO, ANY, paper))
        found = reached(FULLEST, TWO)
        self.assertTrue(all([pair[0] for pair in paper[name]] == found[name] for name in found))


if __name__ == "__main__":
    unittest.main()
