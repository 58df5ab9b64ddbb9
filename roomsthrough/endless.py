"""Rows of one room with any number of rooms: their tables come back in a ring, their costs grow by equal rounds."""

from roomsthrough.bags import need_bag, need_outcome
from roomsthrough.costs import costs, costs_of
from roomsthrough.errors import BadCount, TooMany
from roomsthrough.levels import need_row
from roomsthrough.middle import table, table_of
from roomsthrough.plain import is_whole
from roomsthrough.rules import need_rules
from roomsthrough.shortest import least_behind

MOST_NUMBER = 1000000000000000000
MOST_POSSIBLE = 24


def least_in_row(room, end, rules, bag, outcome, number):
    """The least number of letters of a play of a row with an outcome, None if there is none."""
    need_row(room, end)
    need_rules(rules)
    need_bag(rules, bag)
    need_outcome(rules, outcome)
    _need_number(number)
    possible = {}
    tables, _ = _tables(room, end, rules)
    for one in tables:
        for carried in rules.bags():
            for told in one.outcomes(carried):
                possible[(carried, told)] = True
    if len(possible) > MOST_POSSIBLE:
        raise TooMany()
    if (bag, outcome) not in possible:
        return None
    keys = list(possible)
    first = costs(end, rules)
    least = least_behind(_matrix(room, rules, keys), [first.get(key) for key in keys] + [0], number)
    return least[keys.index((bag, outcome))]


def row_table(room, end, rules, number):
    """The table of a row."""
    need_row(room, end)
    need_rules(rules)
    _need_number(number)
    tables, ahead = _tables(room, end, rules)
    if number < ahead:
        return tables[number]
    return tables[ahead + (number - ahead) % (len(tables) - ahead)]


def row_ring(room, end, rules):
    """The tuple of the least number of rooms ahead of the ring of tables, and of its least length."""
    need_row(room, end)
    need_rules(rules)
    tables, ahead = _tables(room, end, rules)
    return (ahead, len(tables) - ahead)


def _need_number(number):
    """Raise BadCount(number) for what is not a number of rooms that a row can have."""
    if not is_whole(number) or not 0 <= number <= MOST_NUMBER:
        raise BadCount(number)


def _tables(room, end, rules):
    """The list of the tables of the rows with 0, 1, .. rooms that are different, and at which one they come back."""
    found = []
    places = {}
    now = table(end, rules)
    key = _key(now)
    while key not in places:
        places[key] = len(found)
        found.append(now)
        now = table_of(room, rules, [now])
        key = _key(now)
    return (found, places[key])


def _key(one):
    """What tells a table from others with the same rules."""
    return tuple([tuple(one.outcomes(bag)) for bag in one.rules.bags()])


def _matrix(room, rules, keys):
    """For each tuple (bag, outcome) what it costs over each one of a row with one room less, and without any.

    The last line stands for what is always there, at no cost.
    """
    columns = [costs_of(room, rules, [{key: 0}]) for key in keys] + [costs_of(room, rules, [{}])]
    return [[column.get(key) for column in columns] for key in keys] + [[None] * len(keys) + [0]]
