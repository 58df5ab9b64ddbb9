"""The fulls of the levels that a grammar makes."""

from roomsthrough.errors import BadFull
from roomsthrough.fulls import Full, full_with
from roomsthrough.grammars import need_grammar, need_name
from roomsthrough.reach import Reach
from roomsthrough.rules import need_rules


def reached(grammar, rules):
    """The dict from each name to the list of the fulls of its made levels, those with the least derivations first."""
    need_grammar(grammar)
    need_rules(rules)
    reach = Reach(grammar, rules)
    return {name: [full_with(rules, reach.shapes[k]) for k in reach.of_name[name]] for name in grammar.names()}


def least_of(grammar, rules, name, full):
    """The least derivation of a name that has a full."""
    need_grammar(grammar)
    need_rules(rules)
    need_name(grammar, name)
    if not isinstance(full, Full):
        raise BadFull(full)
    reach = Reach(grammar, rules)
    if full.base.rules == rules:
        for number in reach.of_name[name]:
            if reach.shapes[number] == full.shape:
                return reach.trees[number]
    raise BadFull(full)
