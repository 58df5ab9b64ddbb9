"""Least ways through a level, put together from least ways through its rooms."""

from roomsthrough.bags import STAR
from roomsthrough.numbering import by_bag, costs_of_parts, ends_at, leads, least_numbers
from roomsthrough.parts import parts_of


class Ways:
    """The parts of a level with their costs. A part is named by its place, a way is a string of letters."""

    def __init__(self, level, rules):
        self.rules = rules
        self.parts = parts_of(level)
        self.costs = costs_of_parts(self.parts, rules)
        self._visits = [by_bag(child) for child in self.costs]
        self._best = {}

    def numbers(self, part, bag):
        """The least numbers of letters of the states of the part's first room, for whoever comes with a bag."""
        if (part, bag) not in self._best:
            room = self.parts[part][0]
            self._best[(part, bag)] = least_numbers(room, self.rules, self.inner(part), bag)
        return self._best[(part, bag)]

    def to_state(self, part, bag, goal):
        """A least way to a state of the part's first room."""
        room, inside = self.parts[part]
        ahead = self._ahead(part, bag)
        letters = []
        state = goal
        while state in ahead:
            letter, earlier = ahead[state]
            if letter == "i":
                child = inside[int(room.cells[earlier[0]]) - 1]
                letter += self.to_end(child, earlier[4], state[4])
            letters.append(letter)
            state = earlier
        return "".join(letters[::-1])

    def to_end(self, part, bag, outcome):
        """A least way to an outcome that the part has for a bag."""
        room, inside = self.parts[part]
        state = self._last_state(part, bag, outcome)
        way = self.to_state(part, bag, state)
        mark = room.cells[state[0]]
        if mark == "@":
            return way + "o"
        if mark == "*":
            return way
        return way + "i" + self.to_end(inside[int(mark) - 1], state[4], STAR)

    def inner(self, part):
        """For each mouth of the part's first room the dict from bags to the outcomes behind it with their costs."""
        return [self._visits[child] for child in self.parts[part][1]]

    def _ahead(self, part, bag):
        """The dict from all states but the beginning to tuples (letter, state ahead of it on a least way)."""
        room, best, inner = self.parts[part][0], self.numbers(part, bag), self.inner(part)
        found = {}
        for state in best:
            for letter, more, after in leads(room, self.rules, inner, state):
                if best[state] + more == best[after] and after not in found:
                    found[after] = (letter, state)
        return found

    def _last_state(self, part, bag, outcome):
        """The state from which a least way ends with the outcome."""
        room, best, inner = self.parts[part][0], self.numbers(part, bag), self.inner(part)
        cost = self.costs[part][(bag, outcome)]
        for state in best:
            for told, more in ends_at(room, inner, state):
                if told == outcome and best[state] + more == cost:
                    return state
        return None
