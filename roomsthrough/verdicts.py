"""Verdicts: whether each level that a grammar makes fulfils a wish, or some do, and papers that show it."""

from roomsthrough.closing import is_closed_by, is_dict_of_lists
from roomsthrough.errors import NoPaper
from roomsthrough.fulls import is_full_of
from roomsthrough.reach import Reach
from roomsthrough.reaching import reached
from roomsthrough.tours import Shaper
from roomsthrough.wishes import is_met, meets, need_question


def every(grammar, rules, wish):
    """None if each made level of the start fulfils the wish, otherwise the least derivation that does not."""
    need_question(grammar, rules, wish)
    return _least_one(grammar, rules, wish, False)


def some(grammar, rules, wish):
    """None if no made level of the start fulfils the wish, otherwise the least derivation that does."""
    need_question(grammar, rules, wish)
    return _least_one(grammar, rules, wish, True)


def verdict_paper(grammar, rules, wish):
    """The dict of the reached fulls, which shows that each made level of the start fulfils the wish."""
    need_question(grammar, rules, wish)
    paper = reached(grammar, rules)
    for full in paper[grammar.start]:
        if not meets(full, wish):
            raise NoPaper()
    return paper


def is_verdict_paper(grammar, rules, wish, thing):
    """Tell whether a thing is a dict of fulls which shows that each made level of the start fulfils the wish."""
    need_question(grammar, rules, wish)
    if not _is_dict_of_fulls(grammar, rules, thing):
        return False
    for full in thing[grammar.start]:
        if not meets(full, wish):
            return False
    shapes = {name: {one.shape: True for one in thing[name]} for name in grammar.names()}
    return is_closed_by(grammar, Shaper(rules), shapes)


def _least_one(grammar, rules, wish, wanted):
    """The least derivation of the start whose level fulfils the wish, or does not, as wanted; None if there is none."""
    reach = Reach(grammar, Shaper(rules))
    for number in reach.of_name[grammar.start]:
        if is_met(rules, reach.shapes[number], wish) == wanted:
            return reach.trees[number]
    return None


def _is_dict_of_fulls(grammar, rules, thing):
    """Tell whether a thing is a dict from just the names of the grammar to lists of fulls with these rules."""
    if not is_dict_of_lists(grammar, thing):
        return False
    for row in thing.values():
        for full in row:
            if not is_full_of(rules, full):
                return False
    return True
