"""Bags of keys, and the outcomes that visits and plays can have."""

from roomsthrough.errors import BadBag, BadOutcome
from roomsthrough.plain import is_row, is_whole

STAR = "star"


def is_bag(rules, thing):
    """Tell whether a thing is a bag of the rules."""
    if not isinstance(thing, tuple) or len(thing) != 2:
        return False
    for many in thing:
        if not is_whole(many) or not 0 <= many <= rules.cap:
            return False
    return True


def need_bag(rules, bag):
    """Raise BadBag(bag) for what is not a bag of the rules."""
    if not is_bag(rules, bag):
        raise BadBag(bag)


def has_just_bags(rules, thing):
    """Tell whether a thing is a dict with just the bags of the rules as keys."""
    if not isinstance(thing, dict) or len(thing) != len(rules.bags()):
        return False
    for bag in thing:
        if not is_bag(rules, bag):
            return False
    return True


def is_outcome(rules, thing):
    """Tell whether a thing is an outcome: a bag of the rules or the star."""
    return is_bag(rules, thing) or isinstance(thing, str) and thing == STAR


def need_outcome(rules, outcome):
    """Raise BadOutcome(outcome) for what is not an outcome."""
    if not is_outcome(rules, outcome):
        raise BadOutcome(outcome)


def is_row_of_outcomes(rules, thing):
    """Tell whether a thing is a row of outcomes, in any order, perhaps with some of them twice."""
    if not is_row(thing):
        return False
    for outcome in thing:
        if not is_outcome(rules, outcome):
            return False
    return True


def listed(outcomes):
    """The outcomes of a row or of the keys of a dict, with the bags ascending and the star last."""
    ordered = sorted([outcome for outcome in outcomes if outcome != STAR])
    return ordered + [STAR] if STAR in outcomes else ordered
