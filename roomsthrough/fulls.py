"""Full tables: the table of a level together with what can be spoilt in it."""

from roomsthrough.bags import has_just_bags, is_row_of_outcomes, need_bag
from roomsthrough.errors import BadFrail, BadFull, BadRoom, BadTable
from roomsthrough.grounds import Ground
from roomsthrough.levels import need_level
from roomsthrough.masks import bits_of, least_masks, mask_of, outcomes_in
from roomsthrough.moving import first_state
from roomsthrough.parts import parts_of
from roomsthrough.plain import is_row
from roomsthrough.rooms import Room, need_room
from roomsthrough.rules import need_rules
from roomsthrough.tables import Table
from roomsthrough.tours import Tour, shape_of, shapes_of_parts


class Full:
    """A table and a frailty: for each bag the list of the least options behind plays that have not ended."""

    def __init__(self, table, frail):
        if not isinstance(table, Table):
            raise BadTable(table)
        rules = table.rules
        if not has_just_bags(rules, frail):
            raise BadFrail(-1)
        bits = bits_of(rules)
        for bag in rules.bags():
            if not _is_frailty(rules, bits, frail[bag]):
                raise BadFrail(bag)
        self.base = table
        # The plain numbers of the tours, which can be compared and looked up faster.
        self.shape = tuple([
            (mask_of(bits, table.outcomes(bag)), tuple([mask_of(bits, options) for options in frail[bag]]))
            for bag in rules.bags()
        ])

    def __eq__(self, other):
        return isinstance(other, Full) and self.base == other.base and self.shape == other.shape

    def weak(self):
        """The frailty: the dict from the bags to the lists of the least options."""
        return weak_in(self.base.rules, self.shape)


def full(level, rules):
    """The full table of a level."""
    need_level(level)
    need_rules(rules)
    shapes, _ = shapes_of_parts(parts_of(level), rules)
    return full_with(rules, shapes[-1])


def full_of(room, rules, fulls):
    """The full table of a level with this first room whose children have these fulls."""
    _need_parts(room, rules, fulls)
    return full_with(rules, shape_of(Ground(room, rules), [child.shape for child in fulls]))


def fragile(room, rules, fulls, bag):
    """The list of the tuples (state, options of being there) of all states that can be met with a bag."""
    _need_parts(room, rules, fulls)
    need_bag(rules, bag)
    tour = Tour(Ground(room, rules), [child.shape for child in fulls])
    found = []
    for number in tour.met(first_state(room, bag)):
        for state in tour.ground.members[number]:
            found.append((state, tuple(outcomes_in(tour.ground.bits, tour.worth(state)))))
    return sorted(found, key=lambda pair: pair[0])


def twins(one, other, rules):
    """Tell whether two rooms without mouths have equal fulls."""
    _need_closed_room(one)
    _need_closed_room(other)
    need_rules(rules)
    return full_of(one, rules, []) == full_of(other, rules, [])


def full_with(rules, shape):
    """The full table with a shape."""
    bits = bits_of(rules)
    rows = {bag: outcomes_in(bits, row[0]) for bag, row in zip(rules.bags(), shape)}
    return Full(Table(rules, rows), weak_in(rules, shape))


def weak_in(rules, shape):
    """The frailty that a shape tells."""
    bits = bits_of(rules)
    return {bag: [tuple(outcomes_in(bits, mask)) for mask in row[1]] for bag, row in zip(rules.bags(), shape)}


def is_row_of_fulls(room, rules, thing):
    """Tell whether a thing is a row of as many fulls with these rules as the room has mouths."""
    if not is_row(thing) or len(thing) != room.mouths:
        return False
    for one in thing:
        if not is_full_of(rules, one):
            return False
    return True


def is_full_of(rules, thing):
    """Tell whether a thing is a full with these rules."""
    return isinstance(thing, Full) and thing.base.rules == rules


def _need_parts(room, rules, fulls):
    """Raise the error of the first of these arguments that is wrong."""
    need_room(room)
    need_rules(rules)
    if not is_row_of_fulls(room, rules, fulls):
        raise BadFull(-1)


def _need_closed_room(room):
    """Raise BadRoom(room) for what is not a room without mouths."""
    if not isinstance(room, Room) or room.mouths > 0:
        raise BadRoom(room)


def _is_frailty(rules, bits, thing):
    """Tell whether a thing is a list of tuples of outcomes as the frailty of a level has it for a bag."""
    if not isinstance(thing, list) or len(thing) == 0:
        return False
    masks = []
    for options in thing:
        if not isinstance(options, tuple) or not is_row_of_outcomes(rules, options):
            return False
        mask = mask_of(bits, options)
        if tuple(outcomes_in(bits, mask)) != options:
            return False
        masks.append(mask)
    return least_masks(masks) == masks
