"""Plays: walking them, and the least ones."""

from roomsthrough.bags import need_bag, need_outcome
from roomsthrough.costs import costs
from roomsthrough.errors import BadPlay
from roomsthrough.levels import need_level
from roomsthrough.middle import table
from roomsthrough.rules import need_rules
from roomsthrough.walking import Walker
from roomsthrough.ways import Ways


def walk(level, rules, bag, play):
    """The position behind a play, or how it has ended."""
    return walked(level, rules, bag, play).place()


def walked(level, rules, bag, play):
    """The walker behind a play."""
    _need_start(level, rules, bag)
    if not isinstance(play, str):
        raise BadPlay(-1)
    walker = Walker(level, rules, bag)
    done = walker.walk_on(play)
    if done < len(play):
        raise BadPlay(done)
    return walker


def is_play(level, rules, bag, thing):
    """Tell whether a thing is a play, ended or not."""
    _need_start(level, rules, bag)
    return isinstance(thing, str) and Walker(level, rules, bag).walk_on(thing) == len(thing)


def least(level, rules, bag, outcome):
    """The least number of letters of a play with an outcome, None if there is none."""
    _need_start(level, rules, bag)
    need_outcome(rules, outcome)
    return costs(level, rules).get((bag, outcome))


def way(level, rules, bag, outcome):
    """A play with an outcome and as few letters as possible, None if there is none."""
    _need_start(level, rules, bag)
    need_outcome(rules, outcome)
    ways = Ways(level, rules)
    if (bag, outcome) not in ways.costs[-1]:
        return None
    return ways.to_end(len(ways.parts) - 1, bag, outcome)


def outcomes(level, rules, bag):
    """The list of the outcomes of plays."""
    _need_start(level, rules, bag)
    return table(level, rules).outcomes(bag)


def _need_start(level, rules, bag):
    """Raise the error of the first of these arguments that is wrong."""
    need_level(level)
    need_rules(rules)
    need_bag(rules, bag)
