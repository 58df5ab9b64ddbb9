import random
import unittest

from anything import anything, wanted_error
from naive import ALL_RULES, naive_costs, random_level
from roomsthrough.costs import costs
from roomsthrough.errors import BadLevel, BadPaper, BadRules, TooMany
from roomsthrough.levels import Level, row_of
from roomsthrough.middle import met, table
from roomsthrough.papers import is_least_paper, least_paper, told_costs
from roomsthrough.rooms import Room
from roomsthrough.rules import Rules
from roomsthrough.states import begin, is_state, steps
from test_middle import DOOR_ROOM, EXAMPLE, FULL_ROOM, LARGE_ROOM
from test_tables import every_outcome

RULES = Rules()
NOTHING = (0, 0)
LINE = Level(Room(["@.*"]))


def copied(paper):
    numbers, papers = paper
    return ({bag: dict(numbering) for bag, numbering in numbers.items()}, tuple(copied(part) for part in papers))


def told_again(level, rules, thing):
    """The costs that a paper tells, None if it is none: straight from the words of the document."""
    if not isinstance(thing, tuple) or len(thing) != 2 or not isinstance(thing[0], dict):
        return None
    numbers, papers = thing
    if not isinstance(papers, tuple) or len(papers) != len(level.children) or list(sorted(numbers)) != rules.bags():
        return None
    inner = [told_again(child, rules, paper) for child, paper in zip(level.children, papers)]
    if None in inner:
        return None
    told = {}
    for bag in rules.bags():
        found = numbering_again(level.room, rules, inner, bag, numbers[bag])
        if found is None:
            return None
        told.update({(bag, outcome): found[outcome] for outcome in every_outcome(rules) if outcome in found})
    return told


def numbering_again(room, rules, inner, bag, numbering):
    shown = {}
    if numbering.get(begin(room, rules, bag)) != 0:
        return None
    for state, number in numbering.items():
        if not is_state(room, rules, state) or not isinstance(number, int) or isinstance(number, bool) or number < 0:
            return None
        leads = [(after, 1) for _, after in steps(room, rules, state)]
        at, crates, gone, used, carried = state
        mark = room.cell(at)
        if mark in "12" and int(mark) not in used:
            for (coming, outcome), cost in inner[int(mark) - 1].items():
                if coming == carried and outcome == "star":
                    shown.setdefault("star", []).append(number + 1 + cost)
                elif coming == carried:
                    used_then = tuple(sorted([*used, int(mark)]))
                    leads.append(((at, crates, gone, used_then, outcome), cost + 1))
        if mark == "@":
            shown.setdefault(carried, []).append(number + 1)
        if mark == "*":
            shown.setdefault("star", []).append(number)
        if any(after not in numbering or numbering[after] > number + more for after, more in leads):
            return None
    return {outcome: min(found) for outcome, found in shown.items()}


class LeastPaperTest(unittest.TestCase):
    def test_by_hand(self):
        numbers, papers = least_paper(LINE, RULES)
        self.assertEqual((), papers)
        self.assertEqual(RULES.bags(), list(numbers))
        wanted = {(0, (), (), (), (1, 0)): 0, (1, (), (), (), (1, 0)): 1, (2, (), (), (), (1, 0)): 2}
        self.assertEqual(wanted, numbers[(1, 0)])

    def test_the_example_of_the_document(self):
        numbers, papers = least_paper(EXAMPLE, RULES)
        wanted = {
            (0, (), (), (), NOTHING): 0, (1, (), (1,), (), (1, 0)): 1, (2, (), (1,), (), (1, 0)): 2,
            (0, (), (1,), (), (1, 0)): 2, (2, (), (1,), (1,), (1, 0)): 4, (1, (), (1,), (1,), (1, 0)): 5,
            (0, (), (1,), (1,), (1, 0)): 6, (2, (), (1,), (1,), NOTHING): 6, (1, (), (1,), (1,), NOTHING): 7,
            (0, (), (1,), (1,), NOTHING): 8,
        }
        self.assertEqual(wanted, numbers[NOTHING])
        self.assertEqual(1, len(papers))
        self.assertEqual(least_paper(EXAMPLE.part((1,)), RULES), papers[0])

    def test_the_states_are_those_that_can_be_met(self):
        chance = random.Random(91)
        for number in range(80):
            rules, level = ALL_RULES[number % 8], random_level(chance, 1 + number % 4, 9)
            paper = least_paper(level, rules)
            for path in ((), (1,), (2,)):
                if path and path[0] > level.room.mouths:
                    continue
                part, numbers = level.part(path), (paper if not path else paper[1][path[0] - 1])[0]
                tables = [table(child, rules) for child in part.children]
                for bag in rules.bags():
                    self.assertEqual(met(part.room, rules, tables, bag), sorted(numbers[bag]))

    def test_it_tells_the_costs(self):
        chance = random.Random(92)
        for number in range(120):
            rules, level = ALL_RULES[number % 8], random_level(chance, 1 + number % 4, 9)
            paper = least_paper(level, rules)
            self.assertIs(True, is_least_paper(level, rules, paper))
            self.assertEqual(list(costs(level, rules).items()), list(told_costs(level, rules, paper).items()))
            bag = chance.choice(rules.bags())
            wanted = naive_costs(level, rules, bag, 3000)
            if wanted is not None:
                told = told_costs(level, rules, paper)
                self.assertEqual(wanted, {out: cost for (carried, out), cost in told.items() if carried == bag})

    def test_what_is_returned_is_new_each_time(self):
        level = Level(Room(["1@2"]), [LINE, LINE])
        first = least_paper(level, RULES)
        first[1][0][0][NOTHING].clear()
        self.assertEqual(3, len(first[1][1][0][NOTHING]))
        first[0].clear()
        self.assertEqual(least_paper(level, RULES), least_paper(level, RULES))
        self.assertTrue(is_least_paper(level, RULES, least_paper(level, RULES)))
        paper = least_paper(level, RULES)
        told_costs(level, RULES, paper).clear()
        self.assertEqual(costs(level, RULES), told_costs(level, RULES, paper))
        self.assertEqual(paper, least_paper(level, RULES))


class JudgeTest(unittest.TestCase):
    def no(self, level, paper, rules=RULES):
        self.assertIs(False, is_least_paper(level, rules, paper))
        wanted_error(self, BadPaper, None, None, told_costs, level, rules, paper)

    def test_things_of_any_kind(self):
        for thing in anything() + [(), ({}, ()), ({}, []), [{}, ()], (least_paper(LINE, RULES)[0],), (None, ())]:
            self.no(LINE, thing)
            self.no(EXAMPLE, thing)

    def test_very_large_things(self):
        numbers = {bag: {(n, (), (), (), bag): n for n in range(50000)} for bag in RULES.bags()}
        self.no(LINE, (numbers, ()))
        self.no(LINE, (least_paper(LINE, RULES)[0], (1,) * 10 ** 6))
        deep = ()
        for _ in range(20000):
            deep = (deep,)
        self.no(LINE, (least_paper(LINE, RULES)[0], deep))
        self.no(EXAMPLE, (least_paper(EXAMPLE, RULES)[0], deep))
        paper = copied(least_paper(LINE, RULES))
        del paper[0][NOTHING][(2, (), (), (), NOTHING)]
        paper[0][NOTHING][(2, (), (), (), NOTHING)] = 10 ** 4000
        self.no(LINE, paper)

    def test_a_room_too_large_to_search_is_judged(self):
        """Numbering everything with 0, reached or not, is right wherever all states are there."""
        for room in (LARGE_ROOM, DOOR_ROOM):
            numbers = {}
            for bag in RULES.bags():
                found = {begin(room, RULES, bag): 0}
                todo = list(found)
                while todo:
                    for _, after in steps(room, RULES, todo.pop()):
                        if after not in found:
                            found[after] = 0
                            todo.append(after)
                numbers[bag] = found
            self.assertGreater(max(map(len, numbers.values())), 3000)
            level = Level(room)
            self.assertIs(True, is_least_paper(level, RULES, (numbers, ())))
            self.assertIn((NOTHING, NOTHING), told_costs(level, RULES, (numbers, ())))
            numbers[NOTHING].popitem()
            self.no(level, (numbers, ()))

    def test_one_number_greater_or_less(self):
        paper = least_paper(LINE, RULES)
        for state, number in paper[0][NOTHING].items():
            for other in (number + 1, number - 1):
                changed = copied(paper)
                changed[0][NOTHING][state] = other
                wanted = told_again(LINE, RULES, changed)
                if wanted is None:
                    self.no(LINE, changed)
                else:
                    self.assertEqual(wanted, told_costs(LINE, RULES, changed))
        changed = copied(paper)
        changed[0][NOTHING][(2, (), (), (), NOTHING)] = 1
        self.assertEqual(1, told_costs(LINE, RULES, changed)[(NOTHING, "star")])
        changed[0][NOTHING][(2, (), (), (), NOTHING)] = 0
        self.assertEqual(0, told_costs(LINE, RULES, changed)[(NOTHING, "star")])

    def test_papers_changed_at_random(self):
        chance = random.Random(93)
        right = wrong = 0
        for number in range(500):
            rules, level = ALL_RULES[number % 8], random_level(chance, 1 + number % 3, 7)
            paper = copied(least_paper(level, rules))
            numbers = paper[0] if number % 2 or not paper[1] else paper[1][0][0]
            numbering = numbers[chance.choice(rules.bags())]
            state = chance.choice(sorted(numbering))
            if number % 5 == 0:
                del numbering[state]
            elif number % 5 == 1:
                room = level.room if numbers is paper[0] else level.children[0].room
                numbering[self.another_state(chance, room, rules, state)] = chance.randint(0, 9)
            else:
                numbering[state] += chance.choice((-2, -1, 1))
            wanted = told_again(level, rules, paper)
            if wanted is None:
                wrong += 1
                self.no(level, paper, rules)
            else:
                right += 1
                self.assertIs(True, is_least_paper(level, rules, paper))
                self.assertEqual(list(wanted.items()), list(told_costs(level, rules, paper).items()))
        self.assertGreater(right, 60)
        self.assertGreater(wrong, 60)

    def another_state(self, chance, room, rules, state):
        at, crates, gone, used, bag = state
        kind = chance.randrange(4)
        if kind == 0:
            return (chance.randrange(-1, 8), crates, gone, used, bag)
        if kind == 1:
            return (at, crates, gone, tuple(range(1, room.mouths + 1)), bag)
        if kind == 2:
            return (at, crates, gone, used, chance.choice(rules.bags()))
        return (at, crates, (), used, bag)

    def test_lower_papers_are_right_and_tell_less(self):
        chance = random.Random(94)
        for number in range(60):
            rules, level = ALL_RULES[number % 8], random_level(chance, 1 + number % 3, 8)
            told = costs(level, rules)
            for lowered in (lambda n: 0, lambda n: n // 2, lambda n: min(n, 3)):
                paper = self.lowered(least_paper(level, rules), lowered)
                self.assertIs(True, is_least_paper(level, rules, paper))
                less = told_costs(level, rules, paper)
                self.assertEqual(list(told), list(less))
                for key in told:
                    self.assertLessEqual(less[key], told[key])
        level = Level(Room(["@1"]), [Level(Room(["@..*"]))])
        paper = self.lowered(least_paper(level, RULES), lambda n: 0)
        self.assertEqual(1, told_costs(level, RULES, paper)[(NOTHING, "star")])
        self.assertEqual(1, told_costs(level, RULES, paper)[(NOTHING, NOTHING)])

    def lowered(self, paper, function):
        numbers, papers = paper
        told = {bag: {state: function(n) for state, n in found.items()} for bag, found in numbers.items()}
        return (told, tuple(self.lowered(part, function) for part in papers))

    def test_more_states_than_can_be_met(self):
        level = Level(Room(["@#.*"]))
        paper = copied(least_paper(level, RULES))
        paper[0][NOTHING][(2, (), (), (), NOTHING)] = 7
        self.no(level, paper)
        paper[0][NOTHING][(3, (), (), (), NOTHING)] = 9
        self.no(level, paper)
        paper[0][NOTHING][(3, (), (), (), NOTHING)] = 8
        self.assertEqual(8, told_costs(level, RULES, paper)[(NOTHING, "star")])
        paper[0][NOTHING][(0, (), (), (), (1, 1))] = 4
        self.assertEqual(5, told_costs(level, RULES, paper)[(NOTHING, (1, 1))])
        wanted = [((0, 0), (0, 0)), ((0, 0), (1, 1)), ((0, 0), "star"), ((0, 1), (0, 1)), ((1, 0), (1, 0))]
        self.assertEqual(wanted, list(told_costs(level, RULES, paper))[:5])

    def test_flags_and_lists(self):
        paper = least_paper(LINE, RULES)
        numbers, papers = paper
        first = (0, (), (), (), NOTHING)
        self.no(LINE, [numbers, papers])
        self.no(LINE, (numbers, []))
        self.no(LINE, (numbers, papers, ()))
        self.no(LINE, (list(numbers.items()), papers))
        self.no(LINE, ({bag: list(found.items()) for bag, found in numbers.items()}, papers))
        self.no(LINE, ({(bool(bag[0]), bag[1]): found for bag, found in numbers.items()}, papers))
        for number in (False, None, "0", 0 + 0j, (0,)):
            changed = copied(paper)
            changed[0][NOTHING][first] = number
            self.no(LINE, changed)
        changed = copied(paper)
        changed[0][NOTHING][(1, (), (), (), NOTHING)] = True
        self.no(LINE, changed)
        for state in ((False, (), (), (), NOTHING), (0, (), (), (), (False, 0))):
            changed = copied(paper)
            del changed[0][NOTHING][first]
            changed[0][NOTHING][state] = 0
            self.no(LINE, changed)
        for state in (first + (0,), None, len, "star", (9, (), (), (), NOTHING), (0, (), (), (1,), NOTHING)):
            changed = copied(paper)
            changed[0][NOTHING][state] = 5
            self.no(LINE, changed)

    def test_bags_left_out_or_put_in(self):
        for change in (lambda numbers: numbers.popitem(), lambda numbers: numbers.update({(2, 0): {}}),
                       lambda numbers: numbers.update({"star": {}}), lambda numbers: numbers.clear()):
            paper = copied(least_paper(LINE, RULES))
            change(paper[0])
            self.no(LINE, paper)
        paper = copied(least_paper(LINE, RULES))
        paper[0][(2, 2)] = paper[0].pop((1, 1))
        self.no(LINE, paper)
        self.no(LINE, least_paper(LINE, Rules(2)))
        self.no(LINE, least_paper(LINE, RULES), Rules(2))

    def test_papers_of_other_levels(self):
        papers = {}
        levels = [LINE, EXAMPLE, Level(Room(["@..*"])), Level(Room(["@1"]), [LINE]), Level(Room(["@.1"]), [LINE]),
                  Level(Room(["@1"]), [EXAMPLE]), Level(Room(["1@2"]), [LINE, EXAMPLE]), Level(Room(["*.@"]))]
        for at, level in enumerate(levels):
            papers[at] = least_paper(level, RULES)
        for at, level in enumerate(levels):
            for other in papers:
                if other == at:
                    self.assertTrue(is_least_paper(level, RULES, papers[other]))
                else:
                    self.no(level, papers[other])

    def test_a_childs_paper_spoilt(self):
        level = row_of(Room(["@1"]), LINE, 3)
        last = (2, (), (), (), (1, 1))
        for path in ([0], [0, 0], [0, 0, 0]):
            paper = copied(least_paper(level, RULES))
            part = paper
            for at in path:
                part = part[1][at]
            part[0][(1, 1)][max(part[0][(1, 1)])] += 1
            self.no(level, paper)
        paper = copied(least_paper(level, RULES))
        paper[1][0][1][0][1][0][0][(1, 1)][last] = 0
        self.assertEqual(6, told_costs(level, RULES, paper)[((1, 1), "star")])
        self.assertEqual(8, told_costs(level, RULES, paper)[((0, 0), "star")])
        numbers, (child,) = least_paper(level, RULES)
        for wrong in ((), (child, child), (numbers,), child, None, [child]):
            self.no(level, (numbers, wrong))

    def test_what_is_judged_stays_as_it_was(self):
        paper = least_paper(EXAMPLE, RULES)
        kept = copied(paper)
        is_least_paper(EXAMPLE, RULES, paper)
        told_costs(EXAMPLE, RULES, paper)
        self.assertEqual(kept, paper)

    def test_long_rows(self):
        level = row_of(Room(["@.1"]), LINE, 59)
        paper = least_paper(level, RULES)
        self.assertTrue(is_least_paper(level, RULES, paper))
        self.assertEqual(3 * 59 + 2, told_costs(level, RULES, paper)[(NOTHING, "star")])


class ErrorTest(unittest.TestCase):
    def test_in_their_order(self):
        large = Level(LARGE_ROOM)
        for thing in anything():
            if not isinstance(thing, Level):
                wanted_error(self, BadLevel, "value", thing, least_paper, thing, None)
                wanted_error(self, BadLevel, "value", thing, is_least_paper, thing, None, None)
                wanted_error(self, BadLevel, "value", thing, told_costs, thing, None, None)
            if not isinstance(thing, Rules):
                wanted_error(self, BadRules, "value", thing, least_paper, large, thing)
                wanted_error(self, BadRules, "value", thing, is_least_paper, large, thing, None)
                wanted_error(self, BadRules, "value", thing, told_costs, large, thing, None)

    def test_too_many(self):
        for level in (Level(LARGE_ROOM), Level(DOOR_ROOM), Level(Room(["@#1"]), [Level(LARGE_ROOM)])):
            wanted_error(self, TooMany, None, None, least_paper, level, RULES)
            self.assertIs(False, is_least_paper(level, RULES, None))
            wanted_error(self, BadPaper, None, None, told_costs, level, RULES, ({}, ()))
        self.assertTrue(is_least_paper(Level(FULL_ROOM), RULES, least_paper(Level(FULL_ROOM), RULES)))


if __name__ == "__main__":
    unittest.main()
