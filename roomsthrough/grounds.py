"""What steps alone do in a room: its states in groups of which each state leads to each other one by steps."""

from math import comb

from roomsthrough.bags import STAR
from roomsthrough.errors import TooMany
from roomsthrough.masks import bits_of, outcomes_in
from roomsthrough.moving import MOST_STATES, come_back, mouth_here, moves


class Ground:
    """The groups of a room, numbered as they are found: steps lead to groups with lower numbers alone.

    For each number: members are the states of the group, followers the groups that a step leads to, ends the mask
    of the outcomes that its states lead to at once, doors the tuples (state, mouth) of the mouths to go in at, and
    views what tours have found out. The room is small if it is known that too many states can never be met in it;
    counted is how often tours have counted them.
    """

    def __init__(self, room, rules):
        self.room = room
        self.rules = rules
        self.bits = bits_of(rules)
        self.members = []
        self.followers = []
        self.ends = []
        self.doors = []
        self.views = []
        self.places = {bag: at for at, bag in enumerate(rules.bags())}
        self.is_small = _states_at_most(room, rules) <= MOST_STATES
        self.counted = 0
        self._groups = {}
        self._closures = {}
        self._backs = {}

    def group(self, state, most=None):
        """The number of the group of a state, TooMany() if more than most new states are behind it."""
        if state not in self._groups:
            self._explore(state, most)
        return self._groups[state]

    def closure(self, number):
        """The ascending list of all groups that steps lead to from a group, itself among them."""
        if number not in self._closures:
            seen = {number: True}
            todo = [number]
            while todo:
                group = todo.pop()
                for after in self.followers[group]:
                    if after not in seen:
                        seen[after] = True
                        todo.append(after)
            self._closures[number] = sorted(list(seen))
        return self._closures[number]

    def backs(self, state, mouth, mask, most=None):
        """The tuples (bit, group) of coming back out of a mouth, gone into in a state, with the bags of a mask."""
        key = (state, mask)
        if key not in self._backs:
            bags = [outcome for outcome in outcomes_in(self.bits, mask) if outcome != STAR]
            self._backs[key] = [(self.bits[bag], self.group(come_back(state, mouth, bag), most)) for bag in bags]
        return self._backs[key]

    def _explore(self, first, most):
        """Add the groups of all states that steps lead to from a new one."""
        behind = self._new_steps(first, most)
        for members in _groups_in(behind, first):
            self._add(members, behind)

    def _new_steps(self, first, most):
        """The dict from all new states that steps lead to, to the lists of the states behind one step."""
        behind = {}
        todo = [first]
        while todo:
            state = todo.pop()
            if state in behind:
                continue
            behind[state] = [after for _, after in moves(self.room, self.rules, state)]
            if most is not None and len(behind) > most:
                raise TooMany()
            todo.extend([after for after in behind[state] if after not in self._groups])
        return behind

    def _add(self, members, behind):
        """Add a group, all whose followers are known."""
        number = len(self.members)
        for state in members:
            self._groups[state] = number
        followers = {}
        mask = 0
        doors = []
        for state in members:
            for after in behind[state]:
                followers[self._groups[after]] = True
            mask |= self._end(state)
            mouth = mouth_here(self.room, state)
            if mouth > 0:
                doors.append((state, mouth))
        self.members.append(members)
        self.followers.append([other for other in followers if other != number])
        self.ends.append(mask)
        self.doors.append(doors)
        self.views.append({})

    def _end(self, state):
        """The bit of the outcome that a state leads to at once, 0 for none."""
        mark = self.room.cells[state[0]]
        if mark == "@":
            return self.bits[state[4]]
        return self.bits[STAR] if mark == "*" else 0


def _states_at_most(room, rules):
    """A number of states that is not exceeded, whichever ones can be met."""
    free = len(room.cells) - room.cells.count("#")
    crates = sum([comb(free, many) for many in range(len(room.crates) + 1)])
    changes = 0
    for mark in "abABx12":
        changes += room.cells.count(mark)
    return free * crates * len(rules.bags()) << changes


def _groups_in(behind, first):
    """The list of the groups of the states, each one behind its followers."""
    ahead = {state: [] for state in behind}
    for state in behind:
        for after in behind[state]:
            if after in ahead:
                ahead[after].append(state)
    found = []
    placed = {}
    # Whoever goes against the steps, from the states that are left last on, meets one group after the other.
    for state in _left(behind, first)[::-1]:
        if state not in placed:
            found.append(_gathered(ahead, state, placed))
    return found[::-1]


def _left(behind, first):
    """The list of the states in the order in which a search in depth leaves them."""
    order = []
    seen = {first: True}
    path = [(first, 0)]
    while path:
        state, done = path.pop()
        if done == len(behind[state]):
            order.append(state)
            continue
        path.append((state, done + 1))
        after = behind[state][done]
        if after in behind and after not in seen:
            seen[after] = True
            path.append((after, 0))
    return order


def _gathered(ahead, first, placed):
    """The list of the states that are not placed and lead to a state; they are placed then."""
    found = [first]
    placed[first] = True
    at = 0
    while at < len(found):
        state = found[at]
        for earlier in ahead[state]:
            if earlier not in placed:
                placed[earlier] = True
                found.append(earlier)
        at += 1
    return found
