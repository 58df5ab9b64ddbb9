"""Wishes about levels."""

from roomsthrough.bags import STAR, is_bag
from roomsthrough.errors import BadFull, BadWish
from roomsthrough.fulls import Full, full_with
from roomsthrough.grammars import need_grammar
from roomsthrough.rules import need_rules

DEEPEST = 6
# How many bags and how many wishes stand behind each word.
WORDS = {"solved": (1, 0), "safe": (1, 0), "back": (2, 0), "idle": (1, 0), "not": (0, 1), "both": (0, 2)}


def is_wish(rules, thing):
    """Tell whether a thing is a wish under the rules."""
    need_rules(rules)
    return _is_wish(rules, thing, DEEPEST)


def need_wish(rules, wish):
    """Raise BadWish(wish) for what is not a wish under the rules."""
    if not _is_wish(rules, wish, DEEPEST):
        raise BadWish(wish)


def need_question(grammar, rules, wish):
    """Raise the error of the first of these arguments that is wrong."""
    need_grammar(grammar)
    need_rules(rules)
    need_wish(rules, wish)


def meets(full, wish):
    """Tell whether a level with this full fulfils the wish."""
    if not isinstance(full, Full):
        raise BadFull(full)
    need_wish(full.base.rules, wish)
    return _holds(full, wish)


def is_met(rules, shape, wish):
    """Tell whether a level with this shape fulfils what is known to be a wish."""
    return _holds(full_with(rules, shape), wish)


def _is_wish(rules, thing, deepest):
    """Tell whether a thing is a wish that is nested at most so deep."""
    if deepest == 0 or not isinstance(thing, tuple) or len(thing) == 0:
        return False
    if not isinstance(thing[0], str) or thing[0] not in WORDS:
        return False
    bags, wishes = WORDS[thing[0]]
    if len(thing) != 1 + bags + wishes:
        return False
    for part in thing[1:]:
        if bags > 0 and not is_bag(rules, part) or wishes > 0 and not _is_wish(rules, part, deepest - 1):
            return False
    return True


def _holds(full, wish):
    """Tell whether a level with this full fulfils what is known to be a wish."""
    word, first = wish[0], wish[1]
    if word == "not":
        return not _holds(full, first)
    if word == "both":
        return _holds(full, first) and _holds(full, wish[2])
    if word == "solved":
        return full.base.lets(first, STAR)
    if word == "back":
        return full.base.lets(first, wish[2])
    if word == "idle":
        return full.base.outcomes(first) == [first]
    return _is_safe(full, first)


def _is_safe(full, bag):
    """Tell whether the star is among all options."""
    for options in full.weak()[bag]:
        if STAR not in options:
            return False
    return True
