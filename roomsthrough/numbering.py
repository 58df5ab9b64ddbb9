"""Least numbers of letters in one room whose children are known by their costs alone. Nothing is checked here."""

from heapq import heappop, heappush

from roomsthrough.bags import STAR, listed
from roomsthrough.errors import TooMany
from roomsthrough.moving import MOST_STATES, come_back, first_state, mouth_here, moves


def by_bag(child):
    """The costs of a child as a dict from bags to lists of tuples (outcome, cost)."""
    found = {}
    for (bag, outcome), cost in child.items():
        found.setdefault(bag, []).append((outcome, cost))
    return found


def room_costs(room, rules, visits):
    """The costs of a level with this first room, for each child a dict as by_bag makes it."""
    found = {}
    for bag in rules.bags():
        add_told(found, bag, told_by(room, visits, least_numbers(room, rules, visits, bag)))
    return found


def costs_of_parts(parts, rules):
    """The list of the costs of the parts of a level, each of which stands behind its children."""
    known = {}
    found = []
    for room, inside in parts:
        inner = [found[child] for child in inside]
        key = (room.rows, tuple([tuple(child.items()) for child in inner]))
        if key not in known:
            known[key] = room_costs(room, rules, [by_bag(child) for child in inner])
        found.append(known[key])
    return found


def least_numbers(room, rules, visits, bag):
    """The dict from all states that can be met to the least numbers of letters with which they are."""
    first = first_state(room, bag)
    best = {first: 0}
    queue = [(0, first)]
    while queue:
        number, state = heappop(queue)
        if number > best[state]:
            continue
        for _, more, after in leads(room, rules, visits, state):
            if after not in best or number + more < best[after]:
                best[after] = number + more
                heappush(queue, (number + more, after))
        if len(best) > MOST_STATES:
            raise TooMany()
    return best


def leads(room, rules, visits, state):
    """The list of the tuples (letter, letters in all, state) of what a step or a child's bag leads to."""
    found = [(letter, 1, after) for letter, after in moves(room, rules, state)]
    number = mouth_here(room, state)
    for outcome, cost in _visit(visits, number, state):
        if outcome != STAR:
            found.append(("i", cost + 1, come_back(state, number, outcome)))
    return found


def ends_at(room, visits, state):
    """The list of the tuples (outcome, letters) of the ends of a visit that a state leads to at once."""
    mark = room.cells[state[0]]
    if mark == "@":
        return [(state[4], 1)]
    if mark == "*":
        return [(STAR, 0)]
    ends = _visit(visits, mouth_here(room, state), state)
    return [(outcome, cost + 1) for outcome, cost in ends if outcome == STAR]


def told_by(room, visits, numbers):
    """The dict from outcomes to the least numbers of letters that the numbers of the states tell."""
    told = {}
    for state in numbers:
        for outcome, more in ends_at(room, visits, state):
            cost = numbers[state] + more
            told[outcome] = min(cost, told.get(outcome, cost))
    return told


def add_told(found, bag, told):
    """Put what is told for a bag behind the costs that were found."""
    for outcome in listed(told):
        found[(bag, outcome)] = told[outcome]


def _visit(visits, number, state):
    """The list of the tuples (outcome, cost) of going in at the mouth with this number, 0 for none."""
    return visits[number - 1].get(state[4], []) if number > 0 else []
