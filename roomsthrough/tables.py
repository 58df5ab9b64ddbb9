"""Tables: with which outcomes a visit can end, for each bag with which it begins."""

from roomsthrough.bags import STAR, has_just_bags, is_row_of_outcomes, listed, need_bag, need_outcome
from roomsthrough.errors import BadTable
from roomsthrough.plain import is_row
from roomsthrough.rules import need_rules


class Table:
    """For each bag of the rules a list of outcomes."""

    def __init__(self, rules, rows):
        need_rules(rules)
        if not has_just_bags(rules, rows):
            raise BadTable(-1)
        for bag in rules.bags():
            if not _is_table_row(rules, rows[bag]):
                raise BadTable(bag)
        self.rules = rules
        self._rows = {bag: tuple(listed(rows[bag])) for bag in rules.bags()}

    def __eq__(self, other):
        return isinstance(other, Table) and self.rules == other.rules and self._rows == other._rows

    def __or__(self, other):
        _need_other(self, other)
        return Table(self.rules, {bag: _in_either(self._rows[bag], other._rows[bag]) for bag in self._rows})

    def outcomes(self, bag):
        """The list of the outcomes for a bag."""
        need_bag(self.rules, bag)
        return list(self._rows[bag])

    def lets(self, bag, outcome):
        """Tell whether this is an outcome for a bag."""
        need_bag(self.rules, bag)
        need_outcome(self.rules, outcome)
        return outcome in self._rows[bag]

    def within(self, other):
        """Tell whether each outcome of this table is one of the other table, too."""
        _need_other(self, other)
        for bag in self._rows:
            for outcome in self._rows[bag]:
                if outcome not in other._rows[bag]:
                    return False
        return True


def then(one, other):
    """The table of a visit of one and, with the bag that was carried out, of the other."""
    if not isinstance(one, Table):
        raise BadTable(one)
    _need_other(one, other)
    return Table(one.rules, {bag: _joined(one.outcomes(bag), other) for bag in one.rules.bags()})


def same(rules):
    """The table in which each bag alone lets itself."""
    need_rules(rules)
    return Table(rules, {bag: [bag] for bag in rules.bags()})


def none(rules):
    """The table that lets nothing."""
    need_rules(rules)
    return Table(rules, {bag: [] for bag in rules.bags()})


def is_row_of_tables(room, rules, thing):
    """Tell whether a thing is a row of as many tables with these rules as the room has mouths."""
    if not is_row(thing) or len(thing) != room.mouths:
        return False
    for one in thing:
        if not isinstance(one, Table) or one.rules != rules:
            return False
    return True


def _is_table_row(rules, thing):
    """Tell whether a thing is a row of outcomes, none of them twice."""
    return is_row_of_outcomes(rules, thing) and len(set(thing)) == len(thing)


def _need_other(one, other):
    """Raise BadTable(other) for what is not a table with the rules of one."""
    if not isinstance(other, Table) or other.rules != one.rules:
        raise BadTable(other)


def _in_either(row, other):
    """The outcomes that are in a row or in the other."""
    return list(row) + [outcome for outcome in other if outcome not in row]


def _joined(outcomes, other):
    """The outcomes of going on, after some outcomes, with the other table."""
    found = {}
    for outcome in outcomes:
        for last in [STAR] if outcome == STAR else other.outcomes(outcome):
            found[last] = True
    return list(found)
