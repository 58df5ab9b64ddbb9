"""Two books of rules compared: whether one lets what the other one lets, and papers that show it."""

from roomsthrough.closing import is_closed_by, is_dict_of_lists
from roomsthrough.errors import NoPaper
from roomsthrough.fulls import full_with, is_full_of
from roomsthrough.grammars import need_grammar
from roomsthrough.reach import Reach
from roomsthrough.rules import need_rules
from roomsthrough.tours import TwoShapers
from roomsthrough.wishes import is_met, meets, need_wish


def beyond(grammar, rules, other, wish):
    """None if each made level of the start that fulfils the wish under rules does so under other, too.

    Otherwise the least derivation that does under rules alone.
    """
    _need_question(grammar, rules, other, wish)
    reach = Reach(grammar, TwoShapers(rules, other))
    lost = _first_lost(reach, rules, other, wish)
    return None if lost is None else reach.trees[lost]


def book_paper(grammar, rules, other, wish):
    """The dict of the reached tuples (full, other full), which shows that nothing is beyond the other rules."""
    _need_question(grammar, rules, other, wish)
    reach = Reach(grammar, TwoShapers(rules, other))
    if _first_lost(reach, rules, other, wish) is not None:
        raise NoPaper()
    paper = {}
    for name in grammar.names():
        pairs = [reach.shapes[number] for number in reach.of_name[name]]
        paper[name] = [(full_with(rules, one), full_with(other, two)) for one, two in pairs]
    return paper


def is_book_paper(grammar, rules, other, wish, thing):
    """Tell whether a thing is a dict of tuples of fulls which shows that nothing is beyond the other rules."""
    _need_question(grammar, rules, other, wish)
    if not _is_dict_of_pairs(grammar, rules, other, thing):
        return False
    for one, two in thing[grammar.start]:
        if meets(one, wish) and not meets(two, wish):
            return False
    shapes = {name: {(pair[0].shape, pair[1].shape): True for pair in thing[name]} for name in grammar.names()}
    return is_closed_by(grammar, TwoShapers(rules, other), shapes)


def _need_question(grammar, rules, other, wish):
    """Raise the error of the first of these arguments that is wrong."""
    need_grammar(grammar)
    need_rules(rules)
    need_rules(other)
    need_wish(rules, wish)
    need_wish(other, wish)


def _first_lost(reach, rules, other, wish):
    """The first number of the start that meets the wish under rules and does not under other, None if none does."""
    for number in reach.of_name[reach.grammar.start]:
        one, two = reach.shapes[number]
        if is_met(rules, one, wish) and not is_met(other, two, wish):
            return number
    return None


def _is_dict_of_pairs(grammar, rules, other, thing):
    """Tell whether a thing is a dict from just the names to lists of tuples of a full of each of the rules."""
    if not is_dict_of_lists(grammar, thing):
        return False
    for row in thing.values():
        for pair in row:
            if not isinstance(pair, tuple) or len(pair) != 2:
                return False
            if not is_full_of(rules, pair[0]) or not is_full_of(other, pair[1]):
                return False
    return True
