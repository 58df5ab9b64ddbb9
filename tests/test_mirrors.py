"""What holds for all rooms: the other side, exchanged colours, and books of rules that let more."""

import random
import unittest

from naive import ALL_RULES, all_states, random_level, random_room
from roomsthrough.costs import costs
from roomsthrough.frailty import frail, is_spoiler, options, spoiler
from roomsthrough.fulls import fragile, full, full_of, twins
from roomsthrough.levels import Level
from roomsthrough.middle import table, table_of
from roomsthrough.papers import least_paper, told_costs
from roomsthrough.plays import is_play, least, outcomes, walk, way
from roomsthrough.rooms import Room
from roomsthrough.states import is_state, step, steps
from test_frailty import STARS
from test_tables import every_outcome, random_table

TURNED = {"u": "u", "d": "d", "l": "r", "r": "l", "U": "U", "D": "D", "L": "R", "R": "L", "i": "i", "o": "o"}
COLOURS = {"a": "b", "b": "a", "A": "B", "B": "A"}


def mirrored_level(level):
    return Level(level.room.mirrored(), [mirrored_level(child) for child in level.children])


def mirrored_state(room, state):
    width = len(room.rows[0])

    def turned(cell):
        return cell // width * width + width - 1 - cell % width

    at, crates, gone, used, bag = state
    return (turned(at), tuple(sorted(map(turned, crates))), tuple(sorted(map(turned, gone))), used, bag)


def exchanged_room(room):
    return Room(["".join([COLOURS.get(mark, mark) for mark in row]) for row in room.rows])


def exchanged_level(level):
    return Level(exchanged_room(level.room), [exchanged_level(child) for child in level.children])


def turned_about(outcome):
    return outcome if outcome == "star" else outcome[::-1]


def turned_play(play):
    return None if play is None else "".join([TURNED[letter] for letter in play])


def drawn_play(chance, level, rules, bag, most=30):
    """A play that has not ended, letter by letter by chance."""
    play = ""
    for _ in range(chance.randrange(most)):
        letters = [a for a in "udlrUDLRio" if is_play(level, rules, bag, play + a + "")]
        letters = [a for a in letters if isinstance(walk(level, rules, bag, play + a)[0], tuple)]
        if letters:
            play += chance.choice(letters)
    return play


class MirroredTest(unittest.TestCase):
    def test_steps(self):
        chance = random.Random(71)
        for number in range(80):
            room, rules = random_room(chance, number % 3, 8), ALL_RULES[number % 8]
            for state in all_states(room, rules):
                other = mirrored_state(room, state)
                self.assertTrue(is_state(room.mirrored(), rules, other))
                for letter, after in steps(room, rules, state):
                    found = step(room.mirrored(), rules, other, TURNED[letter])
                    self.assertEqual(mirrored_state(room, after), found)
                self.assertEqual(len(steps(room, rules, state)), len(steps(room.mirrored(), rules, other)))

    def test_tables_and_costs(self):
        chance = random.Random(72)
        for number in range(120):
            level, rules = random_level(chance, 1 + number % 4, 10), ALL_RULES[number % 8]
            self.assertTrue(table(level, rules) == table(mirrored_level(level), rules))
            self.assertEqual(list(costs(level, rules).items()), list(costs(mirrored_level(level), rules).items()))

    def test_plays(self):
        chance = random.Random(78)
        for number in range(60):
            level, rules = random_level(chance, 1 + number % 4, 9, STARS), ALL_RULES[number % 8]
            other, bag = mirrored_level(level), chance.choice(rules.bags())
            play = drawn_play(chance, level, rules, bag)
            self.assertTrue(is_play(other, rules, bag, turned_play(play)))
            self.assertEqual(options(level, rules, bag, play), options(other, rules, bag, turned_play(play)))
            rooms, now = [level], walk(level, rules, bag, play)
            for state in now[:-1]:
                rooms.append(rooms[-1].children[int(rooms[-1].room.cell(state[0])) - 1])
            wanted = tuple([mirrored_state(part.room, state) for part, state in zip(rooms, now)])
            self.assertEqual(wanted, walk(other, rules, bag, turned_play(play)))
            self.assertEqual(outcomes(level, rules, bag), outcomes(other, rules, bag))
            for outcome in outcomes(level, rules, bag):
                found = turned_play(way(other, rules, bag, outcome))
                self.assertEqual(least(level, rules, bag, outcome), len(found))
                self.assertEqual(walk(level, rules, bag, found), walk(other, rules, bag, turned_play(found)))

    def test_fulls_and_spoilers(self):
        chance = random.Random(79)
        for number in range(60):
            level, rules = random_level(chance, 1 + number % 4, 9, STARS), ALL_RULES[number % 8]
            other, bag = mirrored_level(level), chance.choice(rules.bags())
            self.assertTrue(full(level, rules) == full(other, rules))
            self.assertEqual(frail(level, rules), frail(other, rules))
            found = spoiler(level, rules, bag)
            self.assertEqual(found is None, spoiler(other, rules, bag) is None)
            if found is not None:
                self.assertTrue(is_spoiler(other, rules, bag, turned_play(found)))
                self.assertEqual(len(found), len(spoiler(other, rules, bag)))
            if level.rooms == 1:
                self.assertTrue(twins(level.room, other.room, rules))
            fulls = [full(child, rules) for child in level.children]
            wanted = [(mirrored_state(level.room, state), told) for state, told in fragile(level.room, rules, fulls, bag)]
            self.assertEqual(sorted(wanted, key=lambda pair: pair[0]), fragile(other.room, rules, fulls, bag))
            told = told_costs(level, rules, least_paper(level, rules))
            self.assertEqual(told, told_costs(other, rules, least_paper(other, rules)))


class ExchangedTest(unittest.TestCase):
    def test_steps(self):
        chance = random.Random(73)
        for number in range(80):
            room, rules = random_room(chance, number % 3, 8), ALL_RULES[number % 8]
            for state in all_states(room, rules):
                found = steps(exchanged_room(room), rules, state[:4] + (state[4][::-1],))
                wanted = [(letter, after[:4] + (after[4][::-1],)) for letter, after in steps(room, rules, state)]
                self.assertEqual(wanted, found)

    def test_tables_and_costs(self):
        chance = random.Random(74)
        for number in range(120):
            level, rules = random_level(chance, 1 + number % 4, 10), ALL_RULES[number % 8]
            found, other = table(level, rules), table(exchanged_level(level), rules)
            told = costs(exchanged_level(level), rules)
            for bag in rules.bags():
                turned = [turned_about(outcome) for outcome in found.outcomes(bag)]
                self.assertEqual([o for o in every_outcome(rules) if o in turned], other.outcomes(bag[::-1]))
            turned = {(bag[::-1], turned_about(outcome)): cost for (bag, outcome), cost in costs(level, rules).items()}
            self.assertEqual(turned, told)


    def test_plays_and_frailties(self):
        chance = random.Random(80)
        for number in range(60):
            level, rules = random_level(chance, 1 + number % 4, 9, STARS), ALL_RULES[number % 8]
            other, bag = exchanged_level(level), chance.choice(rules.bags())
            play = drawn_play(chance, level, rules, bag)
            self.assertTrue(is_play(other, rules, bag[::-1], play))
            turned = [turned_about(outcome) for outcome in options(level, rules, bag, play)]
            wanted = [outcome for outcome in every_outcome(rules) if outcome in turned]
            self.assertEqual(wanted, options(other, rules, bag[::-1], play))
            found, back = frail(level, rules), frail(other, rules)
            for one in rules.bags():
                turned = {frozenset(turned_about(outcome) for outcome in told) for told in found[one]}
                self.assertEqual(turned, {frozenset(told) for told in back[one[::-1]]})
            found = spoiler(level, rules, bag)
            self.assertEqual(found is None, spoiler(other, rules, bag[::-1]) is None)
            if found is not None:
                self.assertTrue(is_spoiler(other, rules, bag[::-1], found))


class ChildrenTest(unittest.TestCase):
    def test_children_exchanged_for_ones_with_equal_tables_fulls_and_costs(self):
        chance = random.Random(85)
        known, seen = [], {"table": 0, "full": 0, "costs": 0}
        for number in range(160):
            child, rules = random_level(chance, 1, 6, "...aA*o"), ALL_RULES[3 * (number % 2)]
            told = (rules, table(child, rules), full(child, rules), costs(child, rules))
            for other, other_told in known[-25:]:
                if not other_told[0] == rules:
                    continue
                room = random_room(chance, 1, 8)
                one, two = Level(room, [child]), Level(room, [other])
                if told[1] == other_told[1]:
                    seen["table"] += 1
                    self.assertTrue(table(one, rules) == table(two, rules))
                if told[2] == other_told[2]:
                    seen["full"] += 1
                    self.assertTrue(full(one, rules) == full(two, rules))
                    self.assertEqual(frail(one, rules), frail(two, rules))
                if told[3] == other_told[3]:
                    seen["costs"] += 1
                    self.assertEqual(costs(one, rules), costs(two, rules))
            known.append((child, told))
        self.assertGreater(min(seen.values()), 20)

    def test_less_options_of_a_child_leave_less(self):
        chance = random.Random(86)
        for number in range(60):
            rules = ALL_RULES[number % 8]
            one, other = [random_level(chance, 1, 6, STARS) for _ in range(2)]
            if not table(one, rules) == table(other, rules):
                continue
            room = random_room(chance, 1, 8, STARS)
            if self.is_under(full(one, rules), full(other, rules)):
                whole = full_of(room, rules, [full(one, rules)])
                self.assertTrue(self.is_under(whole, full_of(room, rules, [full(other, rules)])))

    def is_under(self, one, other):
        """Tell whether each least option of the other one has a part among those of one."""
        weak = one.weak()
        return all(any(set(part) <= set(told) for part in weak[bag]) for bag in weak for told in other.weak()[bag])


class BooksTest(unittest.TestCase):
    def more(self, rules):
        return [
            other for other in ALL_RULES
            if other.cap >= rules.cap and other.strong >= rules.strong and other.pull >= rules.pull
        ]

    def test_each_step_is_let_by_rules_that_let_more(self):
        chance = random.Random(75)
        for number in range(60):
            room, rules = random_room(chance, number % 3, 8), ALL_RULES[number % 8]
            for state in all_states(room, rules):
                for letter, after in steps(room, rules, state):
                    for other in self.more(rules):
                        self.assertEqual(after, step(room, other, state, letter))

    def test_each_outcome_stays_and_gets_no_dearer(self):
        chance = random.Random(76)
        for number in range(60):
            level, rules = random_level(chance, 1 + number % 3, 8), ALL_RULES[number % 8]
            told = costs(level, rules)
            for other in self.more(rules):
                more = costs(level, other)
                for key in told:
                    self.assertLessEqual(more[key], told[key])

    def test_each_play_is_let_by_rules_that_let_more(self):
        chance = random.Random(87)
        for number in range(60):
            level, rules = random_level(chance, 1 + number % 3, 9), ALL_RULES[number % 8]
            bag = chance.choice(rules.bags())
            play = drawn_play(chance, level, rules, bag)
            for other in self.more(rules):
                self.assertEqual(walk(level, rules, bag, play), walk(level, other, bag, play))
                for outcome in outcomes(level, rules, bag):
                    self.assertLessEqual(least(level, other, bag, outcome), least(level, rules, bag, outcome))

    def test_what_is_safe_need_not_stay_safe(self):
        level = Level(Room(["@oo.*", "....#"]))
        lost = [rules for rules in ALL_RULES if spoiler(level, rules, (0, 0)) is not None]
        self.assertEqual([rules for rules in ALL_RULES if rules.strong], lost)

    def test_more_outcomes_of_a_child_never_take_one_away(self):
        chance = random.Random(77)
        for number in range(100):
            room, rules = random_room(chance, 1 + number % 2, 8), ALL_RULES[number % 8]
            one = [random_table(chance, rules) for _ in range(room.mouths)]
            more = [each | random_table(chance, rules) for each in one]
            self.assertTrue(table_of(room, rules, one).within(table_of(room, rules, more)))

    def test_what_only_one_part_of_the_rules_lets(self):
        rows_and_costs = [
            (["@oop", "#g##", "#*##"], 3, lambda rules: rules.strong),
            (["o.p.g*", "#@####"], 5, lambda rules: rules.pull),
            (["@aaAA*"], 5, lambda rules: rules.cap == 2),
        ]
        for rows, cost, lets in rows_and_costs:
            for rules in ALL_RULES:
                told = costs(Level(Room(rows)), rules)
                self.assertEqual(cost if lets(rules) else None, told.get(((0, 0), "star")), rows)


if __name__ == "__main__":
    unittest.main()
