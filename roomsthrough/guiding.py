"""How many letters are left to the star from each position of a level."""

from heapq import heappop, heappush

from roomsthrough.bags import STAR
from roomsthrough.numbering import ends_at, leads
from roomsthrough.ways import Ways


class Guide:
    """What is known about a level, found when it is asked for: a position is asked for as walk tells it."""

    def __init__(self, level, rules):
        self._rules = rules
        self._ways = Ways(level, rules)
        # For the states of the rooms around a room: the dict from its own states to the letters that are left.
        self._known = {}

    def left(self, position):
        """The least number of letters to the star, None if there is no way."""
        return self._left(position[:-1], position[-1])

    def letter(self, position):
        """The first letter of some least way to the star, None if there is none."""
        around, state = position[:-1], position[-1]
        left = self._left(around, state)
        if left is None:
            return None
        room, inner = self._room(around)
        for letter, more, after in leads(room, self._rules, inner, state):
            behind = self._left(around, after)
            if behind is not None and more + behind == left:
                return letter
        # What is left are the ends of a visit: the child's star, or going out.
        return "o" if room.cells[state[0]] == "@" else "i"

    def _left(self, around, state):
        """The letters that are left from a state of the room that is reached through the rooms around it."""
        known = self._known.setdefault(around, {})
        if state not in known:
            self._explore(around, state, known)
        return known[state]

    def _explore(self, around, first, known):
        """Find the letters that are left from all new states that a state leads to."""
        room, inner = self._room(around)
        ahead = {first: []}
        queue = []
        todo = [first]
        while todo:
            state = todo.pop()
            for outcome, more in ends_at(room, inner, state):
                left = 0 if outcome == STAR else self._left_outside(around, outcome)
                _offer(queue, left, more, state)
            for _, more, after in leads(room, self._rules, inner, state):
                if after in known:
                    _offer(queue, known[after], more, state)
                    continue
                if after not in ahead:
                    ahead[after] = []
                    todo.append(after)
                ahead[after].append((more, state))
        for state in ahead:
            known[state] = None
        while queue:
            left, state = heappop(queue)
            if known[state] is None:
                known[state] = left
                for more, earlier in ahead[state]:
                    _offer(queue, left, more, earlier)

    def _left_outside(self, around, bag):
        """The letters that are left to whoever has gone out with a bag."""
        if len(around) == 0:
            return None
        return self._left(around[:-1], around[-1][:4] + (bag,))

    def _room(self, around):
        """The room that is reached through the rooms around it, and the costs behind its mouths."""
        part = len(self._ways.parts) - 1
        for state in around:
            room, inside = self._ways.parts[part]
            part = inside[int(room.cells[state[0]]) - 1]
        return (self._ways.parts[part][0], self._ways.inner(part))


def _offer(queue, left, more, state):
    """Let a state wait for its turn with so many letters more than what is left behind them, None for no way."""
    if left is not None:
        heappush(queue, (left + more, state))
