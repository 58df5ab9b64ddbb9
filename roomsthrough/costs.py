"""Costs: the least numbers of letters with which a visit can end."""

from roomsthrough.levels import need_level
from roomsthrough.numbering import by_bag, costs_of_parts, room_costs
from roomsthrough.parts import parts_of
from roomsthrough.rooms import need_room
from roomsthrough.rules import need_rules


def costs(level, rules):
    """The dict from tuples (bag, outcome) to the least numbers of letters of plays of the level."""
    need_level(level)
    need_rules(rules)
    return costs_of_parts(parts_of(level), rules)[-1]


def costs_of(room, rules, inner):
    """The costs of a level with this first room whose children have these costs."""
    need_room(room)
    need_rules(rules)
    return room_costs(room, rules, [by_bag(child) for child in inner])
