"""The middle: the table of a level rests on its first room and on the tables of its children alone."""

from roomsthrough.bags import STAR, is_row_of_outcomes, need_bag
from roomsthrough.errors import BadOutcome, BadTable, TooMany
from roomsthrough.levels import need_level
from roomsthrough.moving import MOST_STATES, come_back, first_state, mouth_here, moves
from roomsthrough.rooms import need_room
from roomsthrough.rules import need_rules
from roomsthrough.states import is_state
from roomsthrough.tables import Table, is_row_of_tables


def table(level, rules):
    """The table of a level."""
    need_level(level)
    need_rules(rules)
    return _table_within(level, rules, {})


def table_of(room, rules, tables):
    """The table of a level with this first room whose children have these tables."""
    _need_parts(room, rules, tables)
    return _searched(room, rules, tables)


def met(room, rules, tables, bag):
    """The ascending list of all states that can be met in the room by whoever comes with a bag."""
    _need_parts(room, rules, tables)
    need_bag(rules, bag)
    return sorted(_met_states(room, rules, tables, bag))


def is_closed(room, rules, tables, bag, outcomes, thing):
    """Tell whether a thing is a list of states that shows that there are no outcomes but these."""
    _need_parts(room, rules, tables)
    need_bag(rules, bag)
    if not is_row_of_outcomes(rules, outcomes):
        raise BadOutcome(outcomes)
    if not isinstance(thing, list):
        return False
    held = {}
    for state in thing:
        if not is_state(room, rules, state):
            return False
        held[state] = True
    return first_state(room, bag) in held and _leads_nowhere_else(room, rules, tables, outcomes, held)


def _need_parts(room, rules, tables):
    """Raise the error of the first of these arguments that is wrong."""
    need_room(room)
    need_rules(rules)
    if not is_row_of_tables(room, rules, tables):
        raise BadTable(-1)


def _table_within(level, rules, known):
    """The table of a level, where known has what was found for rooms with the rows of their children's tables."""
    tables = [_table_within(child, rules, known) for child in level.children]
    bags = rules.bags()
    key = (level.room.rows, tuple([tuple([tuple(one.outcomes(bag)) for bag in bags]) for one in tables]))
    if key not in known:
        known[key] = _searched(level.room, rules, tables)
    return known[key]


def _searched(room, rules, tables):
    """The table that a search of the room tells."""
    rows = {}
    for bag in rules.bags():
        told = {}
        for state in _met_states(room, rules, tables, bag):
            for outcome in _ends(room, tables, state):
                told[outcome] = True
        rows[bag] = list(told)
    return Table(rules, rows)


def _met_states(room, rules, tables, bag):
    """The list of all states that can be met, the beginning first."""
    found = [first_state(room, bag)]
    seen = {found[0]: True}
    at = 0
    while at < len(found):
        state = found[at]
        for after in _states_behind(room, rules, tables, state):
            if after not in seen:
                seen[after] = True
                found.append(after)
        if len(found) > MOST_STATES:
            raise TooMany()
        at += 1
    return found


def _states_behind(room, rules, tables, state):
    """The list of the states that a step or a child's bag leads to."""
    found = [after for _, after in moves(room, rules, state)]
    number = mouth_here(room, state)
    if number > 0:
        for outcome in tables[number - 1].outcomes(state[4]):
            if outcome != STAR:
                found.append(come_back(state, number, outcome))
    return found


def _ends(room, tables, state):
    """The list of the outcomes that a state leads to without a further state."""
    mark = room.cells[state[0]]
    if mark == "@":
        return [state[4]]
    if mark == "*":
        return [STAR]
    number = mouth_here(room, state)
    if number > 0 and tables[number - 1].lets(state[4], STAR):
        return [STAR]
    return []


def _leads_nowhere_else(room, rules, tables, outcomes, held):
    """Tell whether the held states lead to held states and to these outcomes alone."""
    for state in held:
        for outcome in _ends(room, tables, state):
            if outcome not in outcomes:
                return False
        for after in _states_behind(room, rules, tables, state):
            if after not in held:
                return False
    return True
