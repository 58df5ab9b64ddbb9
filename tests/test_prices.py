import itertools
import random
import unittest

from anything import anything, is_whole, wanted_error
from naive import ALL_RULES
from roomsthrough.errors import BadCount, BadGrammar, BadPrices, BadRules, BadWish, TooMany
from roomsthrough.fulls import Full, full, full_of
from roomsthrough.grammars import Grammar, derivations, is_made, level_of
from roomsthrough.levels import Level
from roomsthrough.prices import cheapest, is_price_paper, price_paper
from roomsthrough.reaching import least_of, reached
from roomsthrough.rooms import Room
from roomsthrough.rules import Rules
from roomsthrough.tables import none
from roomsthrough.verdicts import some
from roomsthrough.wishes import meets
from test_fulls import random_full
from test_grammars import END, FORK, LEAF, LINE, ROW, TREE, chain, random_grammar
from test_middle import DOOR_ROOM, FULL_ROOM, LARGE_ROOM, MOUTH_ROOM
from test_reaching import DOUBLE, FULLEST, MANY, rooms_in
from test_verdicts import ANY, KEYS, NONE, NOTHING, SOLVED, level_meets
from test_wishes import random_wish

RULES = Rules()
GREAT = (1, 10, 1000, 10 ** 30)


def price_of(prices, derivation):
    total, todo = 0, [derivation]
    while todo:
        index, inside = todo.pop()
        total += prices[index]
        todo.extend(inside)
    return total


def shown_by(grammar, rules, wish, prices, least, paper):
    """Whether a list of tuples (name, full, number) is such a paper, from the words of the document."""
    for at, (name, one, number) in enumerate(paper):
        if any(name == other and one == two for other, two, _ in paper[:at]):
            return False
        if name == grammar.start and number is not None and meets(one, wish) and (least is None or number < least):
            return False
    made = {name: [(one, number) for other, one, number in paper if other == name] for name in grammar.names()}
    for (name, room, names), price in zip(grammar.rows, prices):
        can = [[pair for pair in made[inner] if pair[1] is not None] for inner in names]
        for row in itertools.product(*can):
            whole = full_of(room, rules, [pair[0] for pair in row])
            total = price + sum(pair[1] for pair in row)
            if not any(whole == one and number is not None and number <= total for one, number in made[name]):
                return False
    return True


def drawn(chance, number, most=14):
    """A grammar with not too many fulls under some rules, a wish and prices."""
    while True:
        rules = ALL_RULES[number % 8]
        grammar = random_grammar(chance, 5, ("s", "t", "u")[:1 + number % 3], 7, "...aAb*v")
        try:
            found = reached(grammar, rules)
        except TooMany:
            continue
        if 2 < sum(map(len, found.values())) <= most:
            prices = [chance.choice((1, 2, 3, 5, 9, 30, 1000)) for _ in grammar.rows]
            return grammar, rules, random_wish(chance, rules), prices, found


class CheapestTest(unittest.TestCase):
    def test_by_hand(self):
        # A key and its door, or a leaf that is solved alone.
        self.assertEqual((5, (0, ((1, ()),))), cheapest(KEYS, RULES, SOLVED, [2, 3, 4, 5]))
        self.assertEqual((6, (2, ((3, ()),))), cheapest(KEYS, RULES, SOLVED, [2, 5, 4, 2]))
        self.assertEqual((3, (1, ())), cheapest(KEYS, RULES, ("not", SOLVED), (2, 3, 4, 5)))
        self.assertIsNone(cheapest(KEYS, RULES, ("safe", NOTHING), [2, 3, 4, 5]))
        self.assertEqual((1000, (1, ())), cheapest(ROW, RULES, SOLVED, [1, 1000]))
        self.assertEqual((1, (1, ())), cheapest(ROW, RULES, SOLVED, (1000, 1)))

    def test_more_rooms_can_be_cheaper(self):
        grammar = Grammar([("s", LEAF, ()), ("s", LINE, ("t",)), ("t", LINE, ("u",)), ("u", LEAF, ())], "s")
        for prices, wanted in (([1000, 1, 1, 1], 3), ([3, 1, 1, 1], 3), ([2, 1, 1, 1], 2), ([1000, 333, 334, 332], 999)):
            price, made = cheapest(grammar, RULES, SOLVED, prices)
            self.assertEqual((wanted, wanted), (price, price_of(prices, made)))

    def test_against_all_small_derivations(self):
        chance = random.Random(331)
        seen = {"proven": 0, "dearer": 0, "none": 0}
        for number in range(110):
            grammar, rules, wish, prices, _ = drawn(chance, number)
            told = cheapest(grammar, rules, wish, prices)
            self.assertEqual(some(grammar, rules, wish) is None, told is None)
            if told is None:
                seen["none"] += 1
                continue
            price, made = told
            self.assertIsInstance(told, tuple)
            self.assertTrue(is_made(grammar, grammar.start, made))
            self.assertEqual(price, price_of(prices, made))
            if rooms_in(made) <= 30:
                self.assertTrue(level_meets(level_of(grammar, made), rules, wish))
            small = list(itertools.islice(derivations(grammar, grammar.start, 5), 60))
            good = [price_of(prices, one) for one in small if level_meets(level_of(grammar, one), rules, wish)]
            self.assertLessEqual(price, min(good, default=price))
            seen["dearer"] += price < min(good, default=price)
            # Whatever has more rooms than all these is dearer than they are.
            if len(small) < 60 and min(good, default=0) <= 6 * min(prices) and good:
                self.assertEqual(min(good), price)
                seen["proven"] += 1
        self.assertGreater(seen["proven"], 15, seen)
        self.assertGreater(seen["none"], 5, seen)

    def test_against_least_prices_found_again_and_again(self):
        chance = random.Random(332)
        for number in range(26):
            grammar, rules, wish, prices, found = drawn(chance, number, 7)
            least = self.least_prices(grammar, rules, prices, found)
            good = [least[(grammar.start, at)] for at, one in enumerate(found[grammar.start]) if meets(one, wish)]
            told = cheapest(grammar, rules, wish, prices)
            self.assertEqual(min(good, default=None), None if told is None else told[0])
            paper = price_paper(grammar, rules, wish, prices)
            wanted = [(name, at, least[(name, at)]) for name in grammar.names() for at in range(len(found[name]))]
            self.assertEqual([(name, number) for name, _, number in wanted], [(name, number) for name, _, number in paper])
            for (name, at, _), (_, one, _) in zip(wanted, paper):
                self.assertTrue(found[name][at] == one)

    def least_prices(self, grammar, rules, prices, found):
        moves = []
        for (name, room, names), price in zip(grammar.rows, prices):
            for row in itertools.product(*[range(len(found[inner])) for inner in names]):
                whole = full_of(room, rules, [found[inner][at] for inner, at in zip(names, row)])
                (at,) = [at for at, one in enumerate(found[name]) if one == whole]
                moves.append(((name, at), list(zip(names, row)), price))
        least, grows = {}, True
        while grows:
            grows = False
            for key, inner, price in moves:
                if all(each in least for each in inner):
                    total = price + sum(least[each] for each in inner)
                    if total < least.get(key, total + 1):
                        least[key], grows = total, True
        return least

    def test_more_rooms_than_a_level_can_have(self):
        wish = ("back", NOTHING, (2, 0))
        price, made = cheapest(DOUBLE, Rules(2), wish, [1] * 6)
        self.assertEqual((63, 63), (price, rooms_in(made)))
        self.assertTrue(is_made(DOUBLE, "a", made))
        # 16 parts of three rooms each, behind 8, 4, 2 and 1 rooms.
        price, made = cheapest(DOUBLE, Rules(2), wish, [1000, 7, 1, 1, 1, 1000])
        self.assertEqual(16 * 1014 + 8 + 4 + 2 + 1000, price)

    def test_many_levels_that_are_made_of_the_same_parts(self):
        names = ["a", "b", "c", "d", "e"]
        rows = [(name, FORK, (inner, inner)) for name, inner in zip(names, names[1:])]
        grammar = Grammar([*rows, ("e", FORK, ("e", "e")), ("e", LEAF, ())], "a")
        self.assertEqual(15 + 16, cheapest(grammar, RULES, SOLVED, [1] * 6)[0])
        self.assertEqual(1 + 2 + 4 + 8 + 16 * 1000, cheapest(grammar, RULES, SOLVED, [1, 1, 1, 1, 5, 1000])[0])

    def test_nothing_is_made(self):
        for grammar in (Grammar([END], "t"), Grammar([("s", LINE, ("s",))], "s")):
            for wish in (ANY, NONE, SOLVED):
                self.assertIsNone(cheapest(grammar, RULES, wish, [1]))
                paper = price_paper(grammar, RULES, wish, [1])
                self.assertIs(True, is_price_paper(grammar, RULES, wish, [1], None, paper))
                self.assertIs(True, is_price_paper(grammar, RULES, wish, [1], 10 ** 30, paper))


class PaperTest(unittest.TestCase):
    def test_its_order_and_its_numbers(self):
        grammar = Grammar([("t", Room(["@a1"]), ("s",)), ("s", Room(["@A*"]), ()), ("s", Room(["@1"]), ("s",))], "t")
        paper = price_paper(grammar, RULES, SOLVED, [7, 5, 3])
        found = reached(grammar, RULES)
        self.assertEqual(["s"] * len(found["s"]) + ["t"] * len(found["t"]), [line[0] for line in paper])
        self.assertTrue([line[1] for line in paper] == found["s"] + found["t"])
        self.assertIsInstance(paper, list)
        self.assertEqual([5, 8, 12], [line[2] for line in paper])
        self.assertTrue(all(isinstance(line, tuple) and len(line) == 3 for line in paper))

    def test_the_paper_shows_just_the_least_price(self):
        chance = random.Random(333)
        for number in range(40):
            grammar, rules, wish, prices, _ = drawn(chance, number)
            paper = price_paper(grammar, rules, wish, prices)
            told = cheapest(grammar, rules, wish, prices)
            self.assertIs(told is None, is_price_paper(grammar, rules, wish, prices, None, paper))
            for least in (-10 ** 30, -1, 0, 1, 10 ** 30):
                wanted = told is None or least <= told[0]
                self.assertIs(wanted, is_price_paper(grammar, rules, wish, prices, least, paper))
            if told is not None:
                self.assertIs(True, is_price_paper(grammar, rules, wish, prices, told[0], paper))
                self.assertIs(False, is_price_paper(grammar, rules, wish, prices, told[0] + 1, paper))
                for at in range(len(prices)):
                    cheaper = list(prices)
                    cheaper[at] = max(1, prices[at] - 1)
                    wanted = shown_by(grammar, rules, wish, cheaper, told[0], paper)
                    self.assertIs(wanted, is_price_paper(grammar, rules, wish, cheaper, told[0], paper))

    def test_papers_changed_at_one_place(self):
        chance = random.Random(334)
        seen = {True: 0, False: 0}
        for number in range(60):
            grammar, rules, wish, prices, _ = drawn(chance, number, 9)
            paper = price_paper(grammar, rules, wish, prices)
            for _ in range(8):
                changed = self.changed(chance, grammar, rules, list(paper))
                least = chance.choice([None, -1, 0, 1, 2, 5, 12, 40, 1000, 3000, chance.choice([line[2] or 1 for line in changed])])
                wanted = shown_by(grammar, rules, wish, prices, least, changed)
                self.assertIs(wanted, is_price_paper(grammar, rules, wish, prices, least, changed), changed)
                seen[wanted] += 1
        self.assertGreater(min(seen.values()), 60, seen)

    def changed(self, chance, grammar, rules, paper):
        at, kind = chance.randrange(len(paper)), chance.randrange(9)
        name, one, number = paper[at]
        if kind == 0:
            paper[at] = (name, one, chance.randrange(number + 1))
        elif kind == 1:
            paper[at] = (name, one, number + chance.choice((1, 5)))
        elif kind == 2:
            paper[at] = (name, one, None)
        elif kind == 3:
            paper.pop(at)
        elif kind == 4:
            paper.append(paper[at][:2] + (chance.choice((None, number, 0)),))
        elif kind == 5:
            paper[at] = (chance.choice(grammar.names()), one, number)
        elif kind == 6:
            paper.append((chance.choice(grammar.names()), random_full(chance, rules), chance.choice((None, 0, number))))
        elif kind == 7:
            paper.reverse()
        else:
            paper = [(name, one, 0) for name, one, number in paper]
        return paper or [(name, one, number)]

    def test_lower_numbers_and_never_made_ones(self):
        grammar = Grammar([("s", LINE, ("t",)), ("t", LEAF, ())], "s")
        (s_line, t_line) = price_paper(grammar, RULES, SOLVED, [5, 7])
        self.assertEqual(("s", 12, "t", 7), (s_line[0], s_line[2], t_line[0], t_line[2]))

        def judge(least, *numbers):
            paper = [line[:2] + (number,) for line, number in zip((s_line, t_line), numbers)]
            return is_price_paper(grammar, RULES, SOLVED, [5, 7], least, paper)

        self.assertIs(True, judge(12, 12, 7))
        self.assertIs(True, judge(0, 0, 0))
        self.assertIs(True, judge(8, 8, 3))
        self.assertIs(True, judge(8, 8, 7))
        for wrong in ((13, 12, 7), (12, 13, 7), (12, 12, 8), (9, 9, 3), (8, 8, 2), (0, None, 7), (0, 12, None), (0, None, None),
                      (None, None, 7), (None, None, None), (None, 12, 7), (0, -1, 0), (0, 0, -1), (12, True, 7), (0, False, 0),
                      (0, 0, False), (0, "0", 0), (0, 0, "0"), (0, (0,), 0), (0, [], 0)):
            self.assertIs(False, judge(*wrong), wrong)
        never = Grammar([("s", LINE, ("s",)), ("t", LEAF, ())], "s")
        for number, least, wanted in ((None, None, True), (0, None, False), (0, 0, True), (3, 3, True), (3, 4, False), (None, 9, True)):
            paper = [("s", s_line[1], number), t_line]
            self.assertIs(wanted, is_price_paper(never, RULES, SOLVED, [5, 7], least, paper))

    def test_twice_and_of_another_name_or_full(self):
        grammar = Grammar([("s", LEAF, ()), ("t", LEAF, ()), ("t", Room(["@"]), ())], "s")
        paper = price_paper(grammar, RULES, SOLVED, [5, 7, 9])
        self.assertEqual([("s", 5), ("t", 7), ("t", 9)], [(line[0], line[2]) for line in paper])
        self.assertIs(True, is_price_paper(grammar, RULES, SOLVED, [5, 7, 9], 5, paper[::-1]))
        other = paper[2][1]
        self.assertIs(True, is_price_paper(grammar, RULES, SOLVED, [5, 7, 9], 5, paper + [("s", other, 0)]))
        self.assertIs(True, is_price_paper(grammar, RULES, SOLVED, [5, 7, 9], 5, paper + [("s", other, None)]))
        shut = Full(none(RULES), {bag: [()] for bag in RULES.bags()})
        self.assertIs(True, is_price_paper(grammar, RULES, SOLVED, [5, 7, 9], 5, paper + [("t", shut, 3)]))
        for wrong in (
            paper + [paper[0]], paper + [("s", paper[0][1], 6)], paper + [("s", paper[0][1], None)], paper * 2,
            paper + [("u", other, 0)], paper + [("S", other, 0)], paper + [("", other, None)], paper + [(None, other, 0)],
            paper + [("s", full(Level(Room(["@"])), Rules(2)), 0)], paper + [("s", full(Level(Room(["@"])), Rules(1, True)), None)],
            paper + [("s", other)], paper + [("s", other, 0, 0)], paper + [["s", other, 0]], paper + [("s", None, 0)],
            paper + [("s", other.base, 0)], paper + [(other, "s", 0)], tuple(paper), [list(line) for line in paper],
            {line[0]: line for line in paper}, paper[1:], paper[:-1], paper[:1] + paper[2:], [], None,
            [("t", paper[0][1], 5)] + paper[1:], [("s", other, 5)] + paper[1:],
        ):
            self.assertIs(False, is_price_paper(grammar, RULES, SOLVED, [5, 7, 9], 5, wrong))

    def test_things_of_any_kind(self):
        paper = price_paper(ROW, RULES, SOLVED, [1, 1])
        for thing in anything():
            for least in (None, 0):
                self.assertIs(False, is_price_paper(ROW, RULES, SOLVED, [1, 1], least, thing))
            self.assertIs(False, is_price_paper(ROW, RULES, SOLVED, [1, 1], 0, paper + [thing]))
            self.assertIs(False, is_price_paper(ROW, RULES, SOLVED, [1, 1], 0, [(thing, *paper[0][1:])]))
            self.assertIs(False, is_price_paper(ROW, RULES, SOLVED, [1, 1], 0, [(paper[0][0], thing, paper[0][2])]))
            if not is_whole(thing) or not 0 <= thing <= 1:
                self.assertIs(False, is_price_paper(ROW, RULES, SOLVED, [1, 1], 0, [(*paper[0][:2], thing)]))

    def test_rooms_too_large(self):
        one = full(Level(LEAF), RULES)
        for room in (LARGE_ROOM, DOOR_ROOM):
            grammar = Grammar([END, ("t", room, ())], "s")
            self.assertIs(False, is_price_paper(grammar, RULES, ANY, [1, 1], 0, [("s", one, 1), ("t", one, 0)]))
        grammar = Grammar([END, ("t", MOUTH_ROOM, ("u",))], "s")
        self.assertIs(True, is_price_paper(grammar, RULES, ANY, [1, 1], 1, [("s", one, 1)]))
        self.assertIs(True, is_price_paper(grammar, RULES, ANY, [1, 1], 1, [("s", one, 1), ("u", one, None)]))
        self.assertIs(False, is_price_paper(grammar, RULES, ANY, [1, 1], 1, [("s", one, 1), ("u", one, 5)]))
        largest = Grammar([("s", FULL_ROOM, ())], "s")
        self.assertIs(True, is_price_paper(largest, RULES, ANY, [4], 4, price_paper(largest, RULES, ANY, [4])))

    def test_large_papers(self):
        prices = [3, 1, 4, 1, 5, 9, 2, 6]
        paper = price_paper(FULLEST, Rules(2), ANY, prices)
        self.assertEqual(300, len(paper))
        least, made = cheapest(FULLEST, Rules(2), ANY, prices)
        self.assertIs(True, is_price_paper(FULLEST, Rules(2), ANY, prices, least, paper))
        self.assertIs(False, is_price_paper(FULLEST, Rules(2), ANY, prices, least + 1, paper))
        self.assertIs(False, is_price_paper(FULLEST, Rules(2), ANY, prices, least, paper[:-1] + [paper[-1][:2] + (10 ** 9,)]))
        for name, one, number in paper[::60]:
            made = least_of(FULLEST, Rules(2), name, one)
            self.assertLessEqual(number, price_of(prices, made))
        self.assertIs(False, is_price_paper(ROW, RULES, ANY, [1, 1], 0, [None] * 100000))

    def test_what_is_passed_stays_and_what_is_returned_is_new(self):
        prices = [2, 3, 4, 5]
        paper = price_paper(KEYS, RULES, SOLVED, prices)
        kept = list(paper)
        is_price_paper(KEYS, RULES, SOLVED, prices, 5, paper)
        cheapest(KEYS, RULES, SOLVED, prices)
        self.assertTrue(kept == paper and prices == [2, 3, 4, 5])
        paper.clear()
        self.assertTrue(kept == price_paper(KEYS, RULES, SOLVED, prices))
        self.assertTrue(kept == price_paper(KEYS, RULES, ("not", SOLVED), tuple(prices)))

    def test_the_other_side_has_the_same_prices(self):
        chance = random.Random(335)
        for number in range(25):
            grammar, rules, wish, prices, _ = drawn(chance, number)
            other = Grammar([(name, room.mirrored(), names) for name, room, names in grammar.rows], grammar.start)
            self.assertEqual(cheapest(grammar, rules, wish, prices), cheapest(other, rules, wish, prices))
            paper = price_paper(grammar, rules, wish, prices)
            self.assertTrue(paper == price_paper(other, rules, wish, prices))
            self.assertIs(True, is_price_paper(other, rules, wish, prices, 1, paper))


class ErrorTest(unittest.TestCase):
    def test_in_their_order(self):
        large = Grammar([("s", LARGE_ROOM, ())], "s")
        for function, more in ((cheapest, ()), (price_paper, ()), (is_price_paper, ("1", None))):
            for thing in anything():
                if not isinstance(thing, Grammar):
                    wanted_error(self, BadGrammar, "value", thing, function, thing, None, None, None, *more)
                if not isinstance(thing, Rules):
                    wanted_error(self, BadRules, "value", thing, function, large, thing, None, None, *more)
                if thing not in (SOLVED, ("not", ("idle", NOTHING))):
                    wanted_error(self, BadWish, "value", thing, function, large, RULES, thing, None, *more)
                if not isinstance(thing, (list, tuple)) or len(thing) != 1:
                    wanted_error(self, BadPrices, "at", -1, function, large, RULES, SOLVED, thing, *more)
                if not is_whole(thing) or not 1 <= thing <= 1000:
                    wanted_error(self, BadPrices, "at", 0, function, large, RULES, SOLVED, [thing], *more)

    def test_prices_of_another_number(self):
        for many in (0, 1, 3, 11, 10000):
            for price in (1, None):
                for kind in (list, tuple):
                    prices = kind([price] * many)
                    wanted_error(self, BadPrices, "at", -1, cheapest, ROW, RULES, SOLVED, prices)
                    wanted_error(self, BadPrices, "at", -1, price_paper, ROW, RULES, SOLVED, prices)
                    wanted_error(self, BadPrices, "at", -1, is_price_paper, ROW, RULES, SOLVED, prices, "1", None)

    def test_wrong_prices_at_each_place(self):
        grammar = Grammar([END] * 10, "s")
        for at in range(10):
            for wrong in (0, 1001, True, False, None, "1", -1, 10 ** 30, (1,), [1], "", Rules):
                prices = [1, 1000] * 5
                prices[at] = wrong
                for later in (None, at + 1, 9):
                    if later is not None and at < later < 10:
                        prices[later] = 0
                    for function, more in ((cheapest, ()), (price_paper, ()), (is_price_paper, ("1", None))):
                        wanted_error(self, BadPrices, "at", at, function, grammar, RULES, SOLVED, prices, *more)
        self.assertEqual(1, cheapest(grammar, RULES, SOLVED, [1000] * 9 + [1])[0])
        self.assertEqual((1000, (9, ())), cheapest(grammar, RULES, SOLVED, [1000] * 10)[:1] + ((9, ()),))

    def test_wrong_least_prices(self):
        large = Grammar([("s", LARGE_ROOM, ())], "s")
        for thing in anything():
            if thing is not None and not is_whole(thing):
                wanted_error(self, BadCount, "value", thing, is_price_paper, large, RULES, SOLVED, [1], thing, None)
                wanted_error(self, BadCount, "value", thing, is_price_paper, large, RULES, SOLVED, [1], thing, [])
            else:
                self.assertIs(False, is_price_paper(large, RULES, SOLVED, [1], thing, []))

    def test_too_many(self):
        for function in (cheapest, price_paper):
            for wish in (ANY, NONE, SOLVED):
                wanted_error(self, TooMany, None, None, function, Grammar([("s", LARGE_ROOM, ())], "s"), RULES, wish, [1])
                wanted_error(self, TooMany, None, None, function, Grammar([END, ("t", DOOR_ROOM, ())], "s"), RULES, wish, [1, 1])
            wanted_error(self, TooMany, None, None, function, MANY, Rules(2), ANY, [1] * 6)
        self.assertEqual(4, len(TREE.rows) - 1)
        self.assertEqual(chain(0), cheapest(ROW, RULES, SOLVED, [1, 1])[1])


if __name__ == "__main__":
    unittest.main()
