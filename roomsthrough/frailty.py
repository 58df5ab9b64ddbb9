"""What can be spoilt in a level: options, safe levels and spoilers."""

from roomsthrough.bags import STAR, need_bag
from roomsthrough.errors import BadPlay
from roomsthrough.fulls import weak_in
from roomsthrough.levels import need_level
from roomsthrough.masks import outcomes_in
from roomsthrough.parts import parts_of
from roomsthrough.plays import walked
from roomsthrough.rules import need_rules
from roomsthrough.spoiling import Spoiling
from roomsthrough.tours import shapes_of_parts
from roomsthrough.walking import Walker


def options(level, rules, bag, play):
    """The list of the outcomes that plays which go on from a play can have."""
    walker = walked(level, rules, bag, play)
    if walker.end is not None:
        raise BadPlay(len(play))
    parts = parts_of(level)
    _, tours = shapes_of_parts(parts, rules)
    return outcomes_in(tours[-1].ground.bits, _options_at(parts, tours, walker.states))


def frail(level, rules):
    """The dict from the bags to the lists of the least options behind plays that have not ended."""
    need_level(level)
    need_rules(rules)
    shapes, _ = shapes_of_parts(parts_of(level), rules)
    return weak_in(rules, shapes[-1])


def is_safe(level, rules, bag):
    """Tell whether no play that has not ended is spoilt."""
    _need_start(level, rules, bag)
    for least in frail(level, rules)[bag]:
        if STAR not in least:
            return False
    return True


def spoiler(level, rules, bag):
    """A play with as few letters as possible that is spoilt and has not ended, None if there is none."""
    _need_start(level, rules, bag)
    shapes, tours = shapes_of_parts(parts_of(level), rules)
    return Spoiling(level, rules, shapes, tours).way(len(tours) - 1, bag, tours[-1].ground.bits[STAR])


def is_spoiler(level, rules, bag, thing):
    """Tell whether a thing is a play that is spoilt and has not ended."""
    _need_start(level, rules, bag)
    parts = parts_of(level)
    _, tours = shapes_of_parts(parts, rules)
    if not isinstance(thing, str):
        return False
    walker = Walker(level, rules, bag)
    if walker.walk_on(thing) < len(thing) or walker.end is not None:
        return False
    return _options_at(parts, tours, walker.states) & tours[-1].ground.bits[STAR] == 0


def _need_start(level, rules, bag):
    """Raise the error of the first of these arguments that is wrong."""
    need_level(level)
    need_rules(rules)
    need_bag(rules, bag)


def _options_at(parts, tours, position):
    """The mask of the options of being at a position."""
    path = [len(parts) - 1]
    for state in position[:-1]:
        room, inside = parts[path[-1]]
        path.append(inside[int(room.cells[state[0]]) - 1])
    mask = tours[path[-1]].worth(position[-1])
    for part, state in zip(path[-2::-1], position[-2::-1]):
        mask = _worth_outside(tours[part], state, mask)
    return mask


def _worth_outside(tour, state, mask):
    """The mask of what is possible with the outcomes of a child, whose mouth was gone through in a state."""
    found = mask & tour.ground.bits[STAR]
    for bag in outcomes_in(tour.ground.bits, mask):
        if bag != STAR:
            found |= tour.worth(state[:4] + (bag,))
    return found
