import random
import unittest

from anything import anything, is_whole, wanted_error
from naive import ALL_RULES, random_level, random_room
from roomsthrough.costs import costs, costs_of
from roomsthrough.endless import least_in_row, row_ring, row_table
from roomsthrough.errors import BadBag, BadCount, BadLevel, BadOutcome, BadRoom, BadRules, TooMany
from roomsthrough.levels import Level, row_of
from roomsthrough.middle import table, table_of
from roomsthrough.plays import least
from roomsthrough.rooms import Room
from roomsthrough.rules import Rules
from test_levels import row
from test_middle import DOOR_ROOM, LARGE_ROOM, MOUTH_ROOM
from test_tables import every_outcome

RULES, TWO = Rules(), Rules(2)
NOTHING = (0, 0)
GREATEST = 10 ** 18
LEAF, LINE = Room(["@*"]), Room(["@1"])
# A key is taken behind a door of the other colour, and there is no way back: whoever carries one key exchanges it.
EXCHANGE = Room(["A>b>1", "@###^", "B>a>."])


def tables_until_back(room, end, rules):
    """The tables of the rows with 0, 1, 2, .. rooms, and the number of the one that comes back, by looking at them all."""
    found = [table(end, rules)]
    while True:
        now = table_of(room, rules, [found[-1]])
        for at, one in enumerate(found):
            if one == now:
                return found, at
        found.append(now)


def possible(found, rules):
    return {(bag, outcome) for one in found for bag in rules.bags() for outcome in one.outcomes(bag)}


def later(told, number):
    """What a row of costs comes to at a great number, if it has grown by equal steps for long."""
    for length in range(1, 25):
        steps = set()
        for at in range(len(told) - 150, len(told) - length):
            one, other = told[at], told[at + length]
            steps.add((one is None, other is None) if None in (one, other) else other - one)
        pairs = [told[at] is None for at in range(len(told) - length, len(told))]
        if all(step in ((True, True), (False, False)) or is_whole(step) for step in steps) and \
                len([step for step in steps if is_whole(step)]) <= 1 and (False, True) not in steps and (True, False) not in steps:
            at = len(told) - length + (number - (len(told) - length)) % length
            if pairs[at - (len(told) - length)]:
                return None
            (step,) = [step for step in steps if is_whole(step)]
            return told[at] + (number - at) // length * step
    raise AssertionError("no equal steps")


def drawn(chance, number):
    rules = ALL_RULES[number % 8]
    marks = "...aAbB*" if number % 3 else "....oxpgabAB^v<>#*"
    return random_room(chance, 1, 10, marks), random_level(chance, 1 + number % 2, 7, "..aAbB*"), rules


class ByHandTest(unittest.TestCase):
    def test_a_straight_way(self):
        end = Level(LEAF)
        for number in (0, 1, 59, 60, 100, 10 ** 9, GREATEST - 1, GREATEST):
            self.assertEqual(2 * number + 1, least_in_row(LINE, end, RULES, NOTHING, "star", number))
            self.assertEqual(1, least_in_row(LINE, end, RULES, NOTHING, NOTHING, number))
            self.assertIsNone(least_in_row(LINE, end, RULES, NOTHING, (1, 0), number))
            self.assertEqual([NOTHING, "star"], row_table(LINE, end, RULES, number).outcomes(NOTHING))
        self.assertEqual((0, 1), row_ring(LINE, end, RULES))

    def test_the_way_there_and_back(self):
        """The key lies at the far end, so whoever wants it goes through all rooms and back."""
        end = Level(Room(["@.a"]))
        for number in (0, 1, 7, 60, GREATEST):
            self.assertEqual(6 * number + 5, least_in_row(Room(["@.1"]), end, RULES, NOTHING, (1, 0), number))
            self.assertIsNone(least_in_row(Room(["@.1"]), end, RULES, (1, 0), "star", number))

    def test_colours_exchanged(self):
        end = Level(Room(["@A*"]))
        self.assertEqual((1, 2), row_ring(EXCHANGE, end, RULES))
        for number in (0, 1, 2, 5, 6, 10 ** 17, 10 ** 17 + 1, GREATEST - 1, GREATEST):
            for bag in ((1, 0), (0, 1)):
                wins = (number + bag[1]) % 2 == 0
                told = least_in_row(EXCHANGE, end, RULES, bag, "star", number)
                self.assertEqual(wins, told is not None)
                self.assertEqual(wins, row_table(EXCHANGE, end, RULES, number).lets(bag, "star"))
        room = Room(["@Ab", "Ba1"])
        self.assertEqual(costs(row_of(room, end, 9), RULES).get(((0, 1), "star")),
                         least_in_row(room, end, RULES, (0, 1), "star", 9))

    def test_a_ring_of_three(self):
        """Two ways of which there is none back: on one of them a key is taken, on the other one two are needed."""
        room, end = Room([">.a>1", "@###^", ">AA>."]), Level(Room(["@A*"]))
        found, ahead = tables_until_back(room, end, TWO)
        self.assertEqual((1, 3), (ahead, len(found) - ahead))
        self.assertEqual((1, 3), row_ring(room, end, TWO))
        self.assertEqual(24, len(possible(found, TWO)))
        for number in (0, 1, 2, 3, 4, 5, 6, 7, 8, 58, 59, 10 ** 17, 10 ** 17 + 1, 10 ** 17 + 2):
            wanted = found[number] if number < 4 else found[1 + (number - 1) % 3]
            self.assertTrue(wanted == row_table(room, end, TWO, number))
            for many in range(3):
                wins = (many + number) % 3 != 0
                self.assertEqual(wins, row_table(room, end, TWO, number).lets((many, 1), "star"))
                self.assertEqual(wins, least_in_row(room, end, TWO, (many, 1), "star", number) is not None)

    def test_rooms_that_cannot_be_come_through(self):
        end = Level(LEAF)
        shut = Room(["@#1"])
        self.assertEqual((1, 1), row_ring(shut, end, RULES))
        self.assertEqual(1, least_in_row(shut, end, RULES, NOTHING, "star", 0))
        for number in (1, 2, 60, GREATEST):
            self.assertIsNone(least_in_row(shut, end, RULES, NOTHING, "star", number))
            self.assertEqual([NOTHING], row_table(shut, end, RULES, number).outcomes(NOTHING))
        fall = Room(["@v1"])
        for number in (1, 60, GREATEST):
            self.assertEqual(1, least_in_row(fall, end, RULES, NOTHING, NOTHING, number))

    def test_a_star_on_the_way(self):
        """From the second room on nobody needs to go further."""
        room = Room(["1@...*"])
        end = Level(LEAF)
        self.assertEqual([1, 3, 4, 4], [least_in_row(room, end, RULES, NOTHING, "star", n) for n in (0, 1, 2, GREATEST)])

    def test_doors_that_take_the_keys_one_after_the_other(self):
        end = Level(Room(["@*"]))
        self.assertEqual((2, 1), row_ring(Room(["@A1"]), end, RULES))
        self.assertEqual((3, 1), row_ring(Room(["@A1"]), end, TWO))
        for many, wanted in ((0, [1, None, None]), (1, [1, 4, None])):
            told = [least_in_row(Room(["@A1"]), end, RULES, (many, 0), "star", number) for number in (0, 1, 2)]
            self.assertEqual(wanted, told)
        self.assertIsNone(least_in_row(Room(["@A1"]), end, RULES, (1, 0), "star", GREATEST))


class AgainstLevelsTest(unittest.TestCase):
    def test_few_rooms(self):
        chance = random.Random(351)
        compared = 0
        for number in range(56):
            room, end, rules = drawn(chance, number)
            found, ahead = tables_until_back(room, end, rules)
            self.assertEqual((ahead, len(found) - ahead), row_ring(room, end, rules))
            large = len(possible(found, rules)) > 24
            for many in (0, 1, 2, 3, 6):
                level = row_of(room, end, many)
                self.assertTrue(row_table(room, end, rules, many) == table(level, rules))
                told = costs(level, rules)
                for _ in range(2):
                    bag, outcome = chance.choice(rules.bags()), chance.choice(every_outcome(rules))
                    if large:
                        wanted_error(self, TooMany, None, None, least_in_row, room, end, rules, bag, outcome, many)
                    else:
                        self.assertEqual(told.get((bag, outcome)), least_in_row(room, end, rules, bag, outcome, many))
                        compared += 1
        self.assertGreater(compared, 200)

    def test_all_tuples_of_fifty_and_more_rooms(self):
        chance = random.Random(352)
        for number in range(8):
            room, end, _ = drawn(chance, number)
            for many in (50, 58):
                told = costs(row_of(room, end, many), RULES)
                for bag in RULES.bags():
                    for outcome in every_outcome(RULES):
                        self.assertEqual(told.get((bag, outcome)), least_in_row(room, end, RULES, bag, outcome, many))

    def test_great_numbers(self):
        chance = random.Random(353)
        grown = 0
        for number in range(16):
            room, end, rules = drawn(chance, number)
            found, ahead = tables_until_back(room, end, rules)
            ring = len(found) - ahead
            for many in (60, 100, 123456789, 987654321012345678, GREATEST):
                wanted = found[many if many < len(found) else ahead + (many - ahead) % ring]
                self.assertTrue(wanted == row_table(room, end, rules, many))
            if len(possible(found, rules)) > 24:
                continue
            now, told = costs(end, rules), []
            for _ in range(260):
                told.append(now)
                now = costs_of(room, rules, [now])
            for bag, outcome in chance.sample(sorted(possible(found, rules), key=str), 4):
                row_told = [one.get((bag, outcome)) for one in told]
                self.assertEqual(row_told[100], least_in_row(room, end, rules, bag, outcome, 100))
                for many in (10 ** 17, 10 ** 17 + 1, 987654321012345678, GREATEST):
                    wanted = later(row_told, many)
                    self.assertEqual(wanted, least_in_row(room, end, rules, bag, outcome, many))
                    grown += wanted is not None and wanted > 10 ** 16
        self.assertGreater(grown, 6)

    def test_rings_of_more_than_one(self):
        chance = random.Random(354)
        seen = {}
        rooms = [EXCHANGE, EXCHANGE.mirrored(), Room(["A>b.1", "@###.", "B>a.."]), Room(["@A>b>1", "B####^", "v.>a>^"])]
        for number in range(40):
            rules = ALL_RULES[number % 8]
            room = rooms[number // 2 % 4] if number % 2 else random_room(chance, 1, 9, "..aAbBAB")
            end = Level(Room([["@A*", "@.B*"][number // 4 % 2]])) if number % 4 else random_level(chance, 1, 6, "..aAbB*")
            found, ahead = tables_until_back(room, end, rules)
            seen[len(found) - ahead] = seen.get(len(found) - ahead, 0) + 1
            self.assertEqual((ahead, len(found) - ahead), row_ring(room, end, rules))
            for many in (ahead, len(found) - 1, len(found), len(found) + 1, ahead + 7 * (len(found) - ahead), 57):
                self.assertTrue(table(row_of(room, end, many), rules) == row_table(room, end, rules, many))
        self.assertGreater(sum(seen[many] for many in seen if many > 1), 8, seen)

    def test_the_other_side_and_the_colours_exchanged(self):
        chance = random.Random(355)
        turned = {"a": "b", "b": "a", "A": "B", "B": "A"}
        for number in range(16):
            room, end, _ = drawn(chance, number)
            other = Level(end.room.mirrored(), end.children)
            self.assertEqual(row_ring(room, end, RULES), row_ring(room.mirrored(), other, RULES))

            def exchanged(one):
                return Room(["".join(turned.get(mark, mark) for mark in line) for line in one.rows])

            back = Level(exchanged(end.room), [Level(exchanged(child.room)) for child in end.children])
            self.assertEqual(row_ring(room, end, RULES), row_ring(exchanged(room), back, RULES))
            for _ in range(5):
                bag, outcome, many = chance.choice(RULES.bags()), chance.choice(every_outcome(RULES)), chance.choice((1, 4, GREATEST))
                told = least_in_row(room, end, RULES, bag, outcome, many)
                self.assertEqual(told, least_in_row(room.mirrored(), other, RULES, bag, outcome, many))
                outside = outcome if outcome == "star" else outcome[::-1]
                self.assertEqual(told, least_in_row(exchanged(room), back, RULES, bag[::-1], outside, many))


class TooManyTest(unittest.TestCase):
    def test_more_than_twenty_four_tuples(self):
        """Counted over all rows: each of them can have fewer."""
        chance = random.Random(356)
        seen = {True: 0, False: 0, "together": 0, "edge": 0}
        for number in range(80):
            room, end = random_room(chance, 1, 8, "...aAbBaA*"), random_level(chance, 1, 6, "..aAbB*")
            found, _ = tables_until_back(room, end, TWO)
            many = len(possible(found, TWO))
            seen[many > 24] += 1
            seen["edge"] += many in (24, 25)
            seen["together"] += many > 24 >= max(len(possible([one], TWO)) for one in found)
            for rooms in (0, 1, GREATEST):
                row_table(room, end, TWO, rooms)
                if many > 24:
                    wanted_error(self, TooMany, None, None, least_in_row, room, end, TWO, NOTHING, NOTHING, rooms)
                    wanted_error(self, TooMany, None, None, least_in_row, room, end, TWO, NOTHING, "star", rooms)
                else:
                    self.assertEqual(1, least_in_row(room, end, TWO, NOTHING, NOTHING, rooms))
        self.assertGreater(min(seen.values()), 1, seen)

    def test_never_with_one_key_of_a_colour(self):
        """There are just twenty tuples then."""
        room, end = Room(["aA@bB", ".*1.."]), Level(Room(["aA@Bb", "..*.."]))
        for number in (0, 1, GREATEST):
            self.assertEqual(1, least_in_row(room, end, RULES, NOTHING, NOTHING, number))

    def test_rooms_too_large_for_some_number_alone(self):
        """Whoever comes back out of the mouth meets too many states; nobody comes back out of the end itself."""
        shut = Level(Room(["@v*"]))
        wide = Level(LEAF)
        for end in (shut, wide):
            for number in (0, 1, 2, GREATEST):
                wanted_error(self, TooMany, None, None, row_table, MOUTH_ROOM, end, RULES, number)
                wanted_error(self, TooMany, None, None, least_in_row, MOUTH_ROOM, end, RULES, NOTHING, NOTHING, number)
            wanted_error(self, TooMany, None, None, row_ring, MOUTH_ROOM, end, RULES)

    def test_a_room_that_is_too_large_from_some_number_on(self):
        """Only a key that is brought back out of the row makes the room too large, and the end lets nobody out."""
        for end in (Level(Room(["@"])), Level(Room(["@a"])), Level(Room(["@.*"])), Level(LINE, [Level(Room(["@a"]))])):
            for room in (Room(["@A...1", ".o..o."]), Room(["1@A...", ".#..o.", ".#.o..", ".#...."])):
                large = False
                for many in range(4):
                    try:
                        table(row_of(room, end, many), RULES)
                    except TooMany:
                        large = True
                if large:
                    wanted_error(self, TooMany, None, None, row_ring, room, end, RULES)
                    wanted_error(self, TooMany, None, None, row_table, room, end, RULES, 0)
                    wanted_error(self, TooMany, None, None, least_in_row, room, end, RULES, NOTHING, NOTHING, 0)
                else:
                    row_ring(room, end, RULES)

    def test_ends_too_large(self):
        for end in (Level(LARGE_ROOM), Level(DOOR_ROOM), Level(LINE, [Level(LARGE_ROOM)])):
            wanted_error(self, TooMany, None, None, row_ring, LINE, end, RULES)
            wanted_error(self, TooMany, None, None, row_table, LINE, end, RULES, 5)
            wanted_error(self, TooMany, None, None, least_in_row, LINE, end, RULES, NOTHING, "star", 5)

    def test_an_end_of_sixty_rooms(self):
        """A row has more rooms than a level can have."""
        self.assertEqual(119, least_in_row(LINE, row(60), RULES, NOTHING, "star", 0))
        self.assertEqual(121, least_in_row(LINE, row(60), RULES, NOTHING, "star", 1))
        self.assertEqual((0, 1), row_ring(LINE, row(60), RULES))


class ErrorTest(unittest.TestCase):
    def test_in_their_order(self):
        end, large = Level(LEAF), Level(LARGE_ROOM)
        for thing in anything() + [LEAF, Room(["1@2"])]:
            if not isinstance(thing, Room) or thing.mouths != 1:
                wanted_error(self, BadRoom, "value", thing, least_in_row, thing, None, None, None, None, None)
                wanted_error(self, BadRoom, "value", thing, row_table, thing, None, None, None)
                wanted_error(self, BadRoom, "value", thing, row_ring, thing, None, None)
            if not isinstance(thing, Level):
                wanted_error(self, BadLevel, "value", thing, least_in_row, LINE, thing, None, None, None, None)
                wanted_error(self, BadLevel, "value", thing, row_table, LINE, thing, None, None)
                wanted_error(self, BadLevel, "value", thing, row_ring, LINE, thing, None)
            if not isinstance(thing, Rules):
                wanted_error(self, BadRules, "value", thing, least_in_row, LINE, large, thing, None, None, None)
                wanted_error(self, BadRules, "value", thing, row_table, LINE, large, thing, None)
                wanted_error(self, BadRules, "value", thing, row_ring, LINE, large, thing)
            if thing not in ((0, 0), (0, 1)) or isinstance(thing[0], bool):
                wanted_error(self, BadBag, "value", thing, least_in_row, LINE, large, RULES, thing, None, None)
                if thing != "star":
                    wanted_error(self, BadOutcome, "value", thing, least_in_row, LINE, large, RULES, NOTHING, thing, None)
            if not is_whole(thing) or not 0 <= thing <= GREATEST:
                wanted_error(self, BadCount, "value", thing, least_in_row, LINE, large, RULES, NOTHING, "star", thing)
                wanted_error(self, BadCount, "value", thing, row_table, LINE, large, RULES, thing)
            else:
                wanted_error(self, TooMany, None, None, least_in_row, LINE, large, RULES, NOTHING, "star", thing)
                wanted_error(self, TooMany, None, None, row_table, LINE, large, RULES, thing)
        for bag in ((2, 0), (0, 2), (False, 0)):
            wanted_error(self, BadBag, "value", bag, least_in_row, LINE, end, RULES, bag, "star", 1)
            wanted_error(self, BadOutcome, "value", bag, least_in_row, LINE, end, RULES, NOTHING, bag, 1)

    def test_numbers(self):
        end = Level(LEAF)
        for number in (True, False, -1, GREATEST + 1, 10 ** 19, "1", None, (1,), [1]):
            wanted_error(self, BadCount, "value", number, least_in_row, LINE, end, RULES, NOTHING, "star", number)
            wanted_error(self, BadCount, "value", number, row_table, LINE, end, RULES, number)


if __name__ == "__main__":
    unittest.main()
