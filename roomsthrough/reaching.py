"""The fulls of the levels that a grammar makes."""

from roomsthrough.errors import BadFull
from roomsthrough.fulls import Full, full_with
from roomsthrough.grammars import need_grammar, need_name
from roomsthrough.reach import Reach
from roomsthrough.rules import need_rules
from roomsthrough.tours import Shaper


def reached(grammar, rules):
    """The dict from each name to the list of the fulls of its made levels, those with the least derivations first."""
    need_grammar(grammar)
    need_rules(rules)
    reach = Reach(grammar, Shaper(rules))
    return {name: [full_with(rules, reach.shapes[k]) for k in reach.of_name[name]] for name in grammar.names()}


def least_of(grammar, rules, name, full):
    """The least derivation of a name that has a full."""
    need_grammar(grammar)
    need_rules(rules)
    need_name(grammar, name)
    if not isinstance(full, Full):
        raise BadFull(full)
    reach = Reach(grammar, Shaper(rules))
    return reach.trees[need_reached(reach, rules, name, full)]


def need_reached(reach, rules, name, full):
    """The number of a full of a name, BadFull(full) if it is not reached."""
    number = reach.number_of(name, full.shape) if full.base.rules == rules else None
    if number is None:
        raise BadFull(full)
    return number
