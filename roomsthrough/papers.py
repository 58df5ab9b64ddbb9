"""Least papers: they show that no play is cheaper than they tell, and that there are no other outcomes."""

from roomsthrough.bags import has_just_bags
from roomsthrough.errors import BadPaper
from roomsthrough.levels import need_level
from roomsthrough.moving import first_state
from roomsthrough.numbering import add_told, by_bag, leads, told_by
from roomsthrough.plain import is_whole
from roomsthrough.rules import need_rules
from roomsthrough.states import is_state
from roomsthrough.ways import Ways


def least_paper(level, rules):
    """The paper with just the states that can be met and the least numbers of letters."""
    need_level(level)
    need_rules(rules)
    ways = Ways(level, rules)
    return _paper(ways, len(ways.parts) - 1)


def is_least_paper(level, rules, thing):
    """Tell whether a thing is a least paper of the level."""
    need_level(level)
    need_rules(rules)
    return _told(level, rules, thing) is not None


def told_costs(level, rules, paper):
    """The dict of the costs that a paper tells."""
    need_level(level)
    need_rules(rules)
    told = _told(level, rules, paper)
    if told is None:
        raise BadPaper()
    return told


def _paper(ways, part):
    """The least paper of a part; nothing in it is shared, as the parts of the paper are the caller's."""
    numbers = {}
    for bag in ways.rules.bags():
        best = ways.numbers(part, bag)
        numbers[bag] = {state: best[state] for state in sorted(best)}
    return (numbers, tuple([_paper(ways, child) for child in ways.parts[part][1]]))


def _told(level, rules, thing):
    """The dict of the costs that a thing tells, None if it is not a least paper of the level."""
    if not isinstance(thing, tuple) or len(thing) != 2:
        return None
    numbers, papers = thing
    if not has_just_bags(rules, numbers) or not isinstance(papers, tuple) or len(papers) != level.room.mouths:
        return None
    visits = []
    for child, paper in zip(level.children, papers):
        inner = _told(child, rules, paper)
        if inner is None:
            return None
        visits.append(by_bag(inner))
    found = {}
    for bag in rules.bags():
        if not _is_numbering(level.room, rules, visits, bag, numbers[bag]):
            return None
        add_told(found, bag, told_by(level.room, visits, numbers[bag]))
    return found


def _is_numbering(room, rules, visits, bag, thing):
    """Tell whether a thing is a numbering of a room for a bag."""
    if not isinstance(thing, dict):
        return False
    for state, number in thing.items():
        if not is_state(room, rules, state) or not is_whole(number) or number < 0:
            return False
    if thing.get(first_state(room, bag)) != 0:
        return False
    for state, number in thing.items():
        for _, more, after in leads(room, rules, visits, state):
            if after not in thing or thing[after] > number + more:
                return False
    return True
