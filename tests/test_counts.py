import itertools
import random
import unittest

from anything import anything, is_whole, wanted_error
from naive import ALL_RULES, random_room
from roomsthrough.counts import count, count_with, derivation_at
from roomsthrough.errors import BadCount, BadGrammar, BadNumber, BadRules, BadWish, TooMany
from roomsthrough.grammars import Grammar, derivations, is_made, level_of
from roomsthrough.rooms import Room
from roomsthrough.rules import Rules
from test_grammars import END, FORK, LEAF, LINE, ROW, TREE, chain, listing, random_grammar
from test_middle import DOOR_ROOM, LARGE_ROOM
from test_reaching import MANY, rooms_in
from test_verdicts import ANY, KEYS, NONE, NOTHING, SOLVED, level_meets
from test_wishes import random_wish

RULES = Rules()
FORKS = Grammar([("s", FORK, ("s", "s")), ("s", LEAF, ())], "s")
# How many trees with 0, 1, 2, .. forks there are.
CATALAN = [1]
for forks in range(30):
    CATALAN.append(CATALAN[-1] * 2 * (2 * forks + 1) // (forks + 2))


def drawn(chance, number):
    """A grammar that makes levels of several sizes more often than not."""
    rows = list(random_grammar(chance, 4, ("s", "t")[:1 + number % 2], 5, "..aA*v").rows)
    rows.insert(chance.randrange(len(rows)), ("s", random_room(chance, 0, 6, "..aA*"), ()))
    if number % 3 == 0:
        rows.insert(chance.randrange(len(rows)), ("s", random_room(chance, 1, 6, "..aA*"), ("s",)))
    return Grammar(rows, "s")


def told(grammar, rules, wish, rooms, most=300):
    """The derivations with so many rooms that fulfil a wish, in the order of the listing; None if there are too many."""
    found = []
    for made in derivations(grammar, grammar.start, rooms):
        if rooms_in(made) == rooms:
            found.append(made)
            if len(found) > most:
                return None
    return [made for made in found if level_meets(level_of(grammar, made), rules, wish)]


class CountTest(unittest.TestCase):
    def test_by_hand(self):
        self.assertEqual([0, 1, 1, 1, 1], [count(ROW, rooms) for rooms in range(5)])
        self.assertEqual(1, count(ROW, 60))
        two = Grammar([*ROW.rows, ("s", Room(["1@"]), ("s",))], "s")
        self.assertEqual([0, 1, 2, 4, 2 ** 59], [count(two, rooms) for rooms in (0, 1, 2, 3, 60)])
        self.assertEqual([0, 1, 0, 1, 0, 2, 0, 5], [count(FORKS, rooms) for rooms in range(8)])
        self.assertEqual([CATALAN[29], 0], [count(FORKS, 59), count(FORKS, 60)])

    def test_against_the_listing(self):
        chance = random.Random(341)
        for number in range(80):
            grammar = random_grammar(chance, 1 + number % 7)
            made = listing(grammar, 6)[grammar.start]
            for rooms in range(7):
                self.assertEqual(len([1 for many, _ in made if many == rooms]), count(grammar, rooms))

    def test_against_sums_of_its_own(self):
        """Counted up to 60 rooms by a table over names that is filled from the least number on."""
        chance = random.Random(342)
        for number in range(40):
            grammar = random_grammar(chance, 1 + number % 8)
            many = {name: [0] * 61 for name in grammar.names()}
            for rooms in range(1, 61):
                for name, _, names in grammar.rows:
                    if len(names) == 0:
                        many[name][rooms] += rooms == 1
                    elif len(names) == 1:
                        many[name][rooms] += many[names[0]][rooms - 1]
                    else:
                        for first in range(rooms):
                            many[name][rooms] += many[names[0]][first] * many[names[1]][rooms - 1 - first]
            for rooms in (0, 1, 2, 7, 30, 59, 60):
                self.assertEqual(many[grammar.start][rooms], count(grammar, rooms))

    def test_rings_of_names_and_names_that_make_nothing(self):
        ring = Grammar([("a", LINE, ("b",)), ("b", LINE, ("c",)), ("c", LINE, ("a",)), ("b", LEAF, ())], "a")
        self.assertEqual([1 if rooms % 3 == 2 else 0 for rooms in range(61)], [count(ring, rooms) for rooms in range(61)])
        for grammar in (Grammar([END], "t"), Grammar([("s", LINE, ("s",))], "s"), Grammar([("s", FORK, ("s", "t")), ("t", LEAF, ())], "s")):
            for rooms in (0, 1, 2, 3, 60):
                self.assertEqual(0, count(grammar, rooms))
                self.assertEqual(0, count_with(grammar, RULES, ANY, rooms))
                wanted_error(self, BadNumber, "value", 0, derivation_at, grammar, RULES, ANY, rooms, 0)

    def test_equal_productions_make_different_derivations(self):
        self.assertEqual([0, 10], [count(Grammar([END] * 10, "s"), rooms) for rooms in (0, 1)])
        self.assertEqual((9, ()), derivation_at(Grammar([END] * 10, "s"), RULES, SOLVED, 1, 9))


class CountWithTest(unittest.TestCase):
    def test_wishes_that_all_fulfil_and_that_none_does(self):
        for grammar in (ROW, TREE, KEYS, FORKS):
            for rooms in (0, 1, 2, 9, 59, 60):
                self.assertEqual(count(grammar, rooms), count_with(grammar, RULES, ANY, rooms))
                self.assertEqual(0, count_with(grammar, RULES, NONE, rooms))

    def test_a_wish_and_its_contrary(self):
        chance = random.Random(343)
        for number in range(30):
            grammar, rules = drawn(chance, number), ALL_RULES[number % 4]
            wish = random_wish(chance, rules, 2)
            for rooms in (1, 4, 60):
                try:
                    some = count_with(grammar, rules, wish, rooms)
                except TooMany:
                    break
                self.assertEqual(count(grammar, rooms), some + count_with(grammar, rules, ("not", wish), rooms))

    def test_against_the_levels_of_small_derivations(self):
        chance = random.Random(344)
        seen = {"some": 0, "none": 0, "all": 0}
        for number in range(70):
            grammar, rules = drawn(chance, number), ALL_RULES[number % (4 if number % 3 else 8)]
            wish = chance.choice([SOLVED, ("back", NOTHING, (1, 0)), ("safe", NOTHING), random_wish(chance, rules, 2)])
            for rooms in range(1, 6):
                row = told(grammar, rules, wish, rooms, 60)
                if row is None:
                    break
                try:
                    self.assertEqual(len(row), count_with(grammar, rules, wish, rooms))
                except TooMany:
                    break
                kind = "none" if not row else "all" if len(row) == count(grammar, rooms) else "some"
                seen[kind] += 1
                for at, made in enumerate(row):
                    self.assertEqual(made, derivation_at(grammar, rules, wish, rooms, at))
                wanted_error(self, BadNumber, "value", len(row), derivation_at, grammar, rules, wish, rooms, len(row))
        self.assertGreater(min(seen.values()), 18, seen)

    def test_which_of_two_keys_is_taken_last(self):
        """Each room but the last one tells one of two colours, and only the first room counts: half of all levels."""
        grammar = Grammar([("s", Room(["@>1", "a##"]), ("s",)), ("s", Room(["@>1", "b##"]), ("s",)), ("s", Room(["@"]), ())], "s")
        wish = ("back", NOTHING, (1, 0))
        self.assertEqual([0, 0, 1, 2, 2 ** 58], [count_with(grammar, RULES, wish, rooms) for rooms in (0, 1, 2, 3, 60)])
        binary = derivation_at(grammar, RULES, wish, 60, 0b1011 << 40)
        for bit in [0] + [int(mark) for mark in f"{0b1011 << 40:058b}"]:
            self.assertEqual(bit, binary[0])
            binary = binary[1][0]
        self.assertEqual((2, ()), binary)


class DerivationAtTest(unittest.TestCase):
    def test_against_the_listing_in_its_order(self):
        chance = random.Random(345)
        compared = 0
        for number in range(60):
            grammar = drawn(chance, number)
            made = listing(grammar, 6)[grammar.start]
            for rooms in range(1, 7):
                row = [tree for many, tree in made if many == rooms]
                picked = row if len(row) < 12 else row[:2] + row[len(row) // 2:len(row) // 2 + 2] + row[-2:]
                for tree in picked:
                    compared += 1
                    try:
                        self.assertEqual(tree, derivation_at(grammar, RULES, ANY, rooms, row.index(tree)))
                    except TooMany:
                        break
        self.assertGreater(compared, 200)

    def test_smaller_parts_first_or_last_as_python_compares_tuples(self):
        """A part with many rooms can stand ahead of one with few, and the other way round."""
        for rows in ([("s", FORK, ("s", "s")), ("s", LINE, ("s",)), END], [END, ("s", LINE, ("s",)), ("s", FORK, ("s", "s"))],
                     [("s", LINE, ("s",)), END, ("s", FORK, ("s", "s")), ("s", Room(["@."]), ())]):
            grammar = Grammar(rows, "s")
            for rooms in range(8):
                row = sorted(tree for many, tree in listing(grammar, 7)["s"] if many == rooms)
                for wish in (ANY, ("safe", NOTHING), SOLVED, ("not", SOLVED)):
                    good = [tree for tree in row if level_meets(level_of(grammar, tree), RULES, wish)]
                    self.assertEqual(len(good), count_with(grammar, RULES, wish, rooms))
                    for at in sorted({0, 1, len(good) // 3, len(good) // 2, len(good) - 1} & set(range(len(good)))):
                        self.assertEqual(good[at], derivation_at(grammar, RULES, wish, rooms, at))

    def test_sixty_rooms(self):
        self.assertEqual(chain(59), derivation_at(ROW, RULES, SOLVED, 60, 0))
        wanted_error(self, BadNumber, "value", 1, derivation_at, ROW, RULES, SOLVED, 60, 1)
        for grammar, rooms in ((FORKS, 59), (TREE, 60), (KEYS, 60), (TREE, 59)):
            for wish in (ANY, SOLVED, ("not", ("idle", (1, 0)))):
                self.check_ends(grammar, rooms, wish)

    def check_ends(self, grammar, rooms, wish):
        many = count_with(grammar, RULES, wish, rooms)
        wanted_error(self, BadNumber, "value", many, derivation_at, grammar, RULES, wish, rooms, many)
        wanted_error(self, BadNumber, "value", many + 10 ** 40, derivation_at, grammar, RULES, wish, rooms, many + 10 ** 40)
        if many == 0:
            return
        places = sorted({at for at in (0, 1, many // 7, many // 2, many // 2 + 1, many - 2, many - 1) if 0 <= at < many})
        row = [derivation_at(grammar, RULES, wish, rooms, at) for at in places]
        self.assertEqual(sorted(row), row)
        self.assertEqual(len(row), len({str(made) for made in row}))
        for made in row:
            self.assertEqual(rooms, rooms_in(made))
            self.assertTrue(is_made(grammar, grammar.start, made))
            self.assertTrue(level_meets(level_of(grammar, made), RULES, wish))

    def test_the_first_and_the_last_of_all_forks(self):
        """Forks stand ahead of leaves, so the first one goes on at the left as far as it can."""
        left, right = (1, ()), (1, ())
        for _ in range(29):
            left, right = (0, (left, (1, ()))), (0, ((1, ()), right))
        self.assertEqual(left, derivation_at(FORKS, RULES, SOLVED, 59, 0))
        self.assertEqual(right, derivation_at(FORKS, RULES, SOLVED, 59, CATALAN[29] - 1))
        wanted_error(self, BadNumber, "value", CATALAN[29], derivation_at, FORKS, RULES, SOLVED, 59, CATALAN[29])

    def test_the_number_of_any_fork(self):
        """The place of a derivation, by how many ones stand ahead of it."""
        chance = random.Random(346)
        for forks in (3, 8, 20, 29):
            for _ in range(6):
                number = chance.randrange(CATALAN[forks])
                made = derivation_at(FORKS, RULES, SOLVED, 2 * forks + 1, number)
                self.assertEqual(number, self.place(made))

    def place(self, made):
        """How many trees of forks with as many rooms stand ahead of one, written as a row of the forks and leaves met."""
        marks, todo = [], [made]
        while todo:
            index, inside = todo.pop()
            marks.append(index)
            todo.extend(reversed(inside))
        ahead, open_parts, forks = 0, 1, marks.count(0)
        for mark in marks:
            if mark == 1 and forks > 0:
                ahead += self.ways(forks - 1, open_parts + 1)
            forks -= mark == 0
            open_parts += 1 if mark == 0 else -1
        return ahead

    def ways(self, forks, parts):
        """How many rows of so many trees have so many forks together."""
        known = getattr(self, "known", {})
        self.known = known
        if parts == 0:
            return int(forks == 0)
        if (forks, parts) not in known:
            known[(forks, parts)] = sum(CATALAN[first] * self.ways(forks - first, parts - 1) for first in range(forks + 1))
        return known[(forks, parts)]

    def test_binary_numbers_down_the_side(self):
        """A row of forks, each with one of two leaves at its first mouth: the number's digits."""
        grammar = Grammar([("s", FORK, ("t", "s")), ("s", LEAF, ()), ("t", Room(["@a"]), ()), ("t", Room(["@b"]), ())], "s")
        self.assertEqual(2 ** 29, count(grammar, 59))
        for number in (0, 1, 5, 2 ** 28, 2 ** 29 - 1, 123456789):
            made = derivation_at(grammar, RULES, SOLVED, 59, number)
            digits = []
            while made[0] == 0:
                digits.append(made[1][0][0] - 2)
                made = made[1][1]
            self.assertEqual(f"{number:029b}", "".join(map(str, digits)))

    def test_the_other_side(self):
        chance = random.Random(347)
        for number in range(25):
            grammar, rules = drawn(chance, number), ALL_RULES[number % 8]
            other = Grammar([(name, room.mirrored(), names) for name, room, names in grammar.rows], grammar.start)
            wish, rooms = random_wish(chance, rules, 2), chance.choice((1, 3, 4, 17, 60))
            try:
                many = count_with(grammar, rules, wish, rooms)
            except TooMany:
                continue
            self.assertEqual(many, count_with(other, rules, wish, rooms))
            for at in {0, many // 2, many - 1} if many else ():
                found = derivation_at(grammar, rules, wish, rooms, at)
                self.assertEqual(found, derivation_at(other, rules, wish, rooms, at))


class ErrorTest(unittest.TestCase):
    def test_in_their_order(self):
        large = Grammar([("s", LARGE_ROOM, ())], "s")
        for thing in anything():
            if not isinstance(thing, Grammar):
                wanted_error(self, BadGrammar, "value", thing, count, thing, None)
                wanted_error(self, BadGrammar, "value", thing, count_with, thing, None, None, None)
                wanted_error(self, BadGrammar, "value", thing, derivation_at, thing, None, None, None, None)
            if not isinstance(thing, Rules):
                wanted_error(self, BadRules, "value", thing, count_with, large, thing, None, None)
                wanted_error(self, BadRules, "value", thing, derivation_at, large, thing, None, None, None)
            if thing not in (SOLVED, ("not", ("idle", NOTHING))):
                wanted_error(self, BadWish, "value", thing, count_with, large, RULES, thing, None)
                wanted_error(self, BadWish, "value", thing, derivation_at, large, RULES, thing, None, None)
            if not is_whole(thing) or not 0 <= thing <= 60:
                wanted_error(self, BadCount, "value", thing, count, large, thing)
                wanted_error(self, BadCount, "value", thing, count_with, large, RULES, SOLVED, thing)
                wanted_error(self, BadCount, "value", thing, derivation_at, large, RULES, SOLVED, thing, None)
            if not is_whole(thing) or thing < 0:
                wanted_error(self, BadNumber, "value", thing, derivation_at, large, RULES, SOLVED, 1, thing)
            elif thing > 0:
                wanted_error(self, TooMany, None, None, derivation_at, large, RULES, SOLVED, 1, thing)
                wanted_error(self, BadNumber, "value", thing, derivation_at, ROW, RULES, SOLVED, 1, thing)

    def test_numbers_that_are_none(self):
        for number in (True, False, -1, None, "0", (0,), [], {}, "", -10 ** 30):
            wanted_error(self, BadNumber, "value", number, derivation_at, ROW, RULES, SOLVED, 5, number)
            wanted_error(self, BadNumber, "value", number, derivation_at, MANY, Rules(2), SOLVED, 0, number)

    def test_too_many(self):
        for grammar, rules in ((Grammar([("s", LARGE_ROOM, ())], "s"), RULES), (Grammar([END, ("t", DOOR_ROOM, ())], "s"), RULES),
                               (MANY, Rules(2))):
            for rooms in (0, 1, 60):
                wanted_error(self, TooMany, None, None, count_with, grammar, rules, SOLVED, rooms)
                wanted_error(self, TooMany, None, None, derivation_at, grammar, rules, SOLVED, rooms, 0)
                wanted_error(self, TooMany, None, None, derivation_at, grammar, rules, SOLVED, rooms, 10 ** 30)
            count(grammar, 60)

    def test_what_is_returned_is_new(self):
        first = list(itertools.islice(derivations(TREE, "s", 7), 40))[-1]
        rooms = rooms_in(first)
        row = [derivation_at(TREE, RULES, ANY, rooms, at) for at in range(count(TREE, rooms))]
        self.assertIn(first, row)
        self.assertEqual(sorted(row), row)
        self.assertEqual(row, [derivation_at(TREE, RULES, ANY, rooms, at) for at in range(len(row))])


if __name__ == "__main__":
    unittest.main()
