"""Costs: the least numbers of letters with which a visit can end."""

from heapq import heappop, heappush

from roomsthrough.bags import STAR, listed
from roomsthrough.errors import TooMany
from roomsthrough.levels import need_level
from roomsthrough.moving import MOST_STATES, come_back, first_state, mouth_here, moves
from roomsthrough.rooms import need_room
from roomsthrough.rules import need_rules


def costs(level, rules):
    """The dict from tuples (bag, outcome) to the least numbers of letters of plays of the level."""
    need_level(level)
    need_rules(rules)
    return _costs_within(level, rules, {})


def costs_of(room, rules, inner):
    """The costs of a level with this first room whose children have these costs."""
    need_room(room)
    need_rules(rules)
    visits = [_by_bag(child) for child in inner]
    found = {}
    for bag in rules.bags():
        told = _told(room, visits, _least_numbers(room, rules, visits, bag))
        for outcome in listed(told):
            found[(bag, outcome)] = told[outcome]
    return found


def _costs_within(level, rules, known):
    """The costs of a level, where known has what was found for rooms with the costs of their children."""
    inner = [_costs_within(child, rules, known) for child in level.children]
    key = (level.room.rows, tuple([tuple(child.items()) for child in inner]))
    if key not in known:
        known[key] = costs_of(level.room, rules, inner)
    return known[key]


def _by_bag(child):
    """The costs of a child as a dict from bags to lists of tuples (outcome, cost)."""
    found = {}
    for (bag, outcome), cost in child.items():
        found.setdefault(bag, []).append((outcome, cost))
    return found


def _least_numbers(room, rules, visits, bag):
    """The dict from all states that can be met to the least numbers of letters with which they are."""
    first = first_state(room, bag)
    best = {first: 0}
    queue = [(0, first)]
    while queue:
        number, state = heappop(queue)
        if number > best[state]:
            continue
        for more, after in _states_behind(room, rules, visits, state):
            if after not in best or number + more < best[after]:
                best[after] = number + more
                heappush(queue, (number + more, after))
        if len(best) > MOST_STATES:
            raise TooMany()
    return best


def _states_behind(room, rules, visits, state):
    """The list of the tuples (letters, state) of what a step or a child's bag leads to."""
    found = [(1, after) for _, after in moves(room, rules, state)]
    number = mouth_here(room, state)
    for outcome, cost in _visit(visits, number, state):
        if outcome != STAR:
            found.append((cost + 1, come_back(state, number, outcome)))
    return found


def _visit(visits, number, state):
    """The list of the tuples (outcome, cost) of going in at the mouth with this number, 0 for none."""
    return visits[number - 1].get(state[4], []) if number > 0 else []


def _told(room, visits, best):
    """The dict from outcomes to the least numbers that the numbers of the states tell."""
    told = {}
    for state in best:
        for outcome, more in _ends(room, visits, state):
            cost = best[state] + more
            told[outcome] = min(cost, told.get(outcome, cost))
    return told


def _ends(room, visits, state):
    """The list of the tuples (outcome, letters) of the ends of a visit that a state leads to at once."""
    mark = room.cells[state[0]]
    if mark == "@":
        return [(state[4], 1)]
    if mark == "*":
        return [(STAR, 0)]
    ends = _visit(visits, mouth_here(room, state), state)
    return [(outcome, cost + 1) for outcome, cost in ends if outcome == STAR]
