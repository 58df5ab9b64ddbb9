"""States of a room and the steps between them."""

from roomsthrough.bags import is_bag, need_bag
from roomsthrough.moving import STEPS_WITH_PULLING, can_lie, first_state, moved, moves
from roomsthrough.plain import is_ascending, is_whole
from roomsthrough.rooms import need_room
from roomsthrough.rules import need_rules


def begin(room, rules, bag):
    """The state of whoever has just come into the room with a bag."""
    need_room(room)
    need_rules(rules)
    need_bag(rules, bag)
    return first_state(room, bag)


def step(room, rules, state, letter):
    """The state behind a step, None if the step is not possible."""
    need_room(room)
    need_rules(rules)
    if not isinstance(letter, str) or len(letter) != 1 or letter not in STEPS_WITH_PULLING:
        return None
    return moved(room, rules, state, letter)


def steps(room, rules, state):
    """The list of the tuples (letter, state behind it) of all steps that are possible."""
    need_room(room)
    need_rules(rules)
    return moves(room, rules, state)


def is_state(room, rules, thing):
    """Tell whether a thing is a state of the room, whether it can be reached or not."""
    need_room(room)
    need_rules(rules)
    if not isinstance(thing, tuple) or len(thing) != 5:
        return False
    at, crates, gone, used, bag = thing
    return (
        _can_be_gone(room, gone)
        and _can_be_crates(room, gone, crates)
        and _can_be_at(room, crates, gone, at)
        and is_ascending(used, 1, room.mouths)
        and is_bag(rules, bag)
    )


def _can_be_gone(room, gone):
    """Tell whether a thing is a tuple of cells that can have become floor."""
    if not is_ascending(gone, 0, len(room.cells) - 1):
        return False
    for cell in gone:
        if room.cells[cell] not in "abABx":
            return False
    return True


def _can_be_crates(room, gone, crates):
    """Tell whether a thing is a tuple of cells where the crates that are left can lie."""
    if not is_ascending(crates, 0, len(room.cells) - 1):
        return False
    for cell in crates:
        if not can_lie(room, gone, cell):
            return False
    filled = [cell for cell in gone if room.cells[cell] == "x"]
    return len(crates) == len(room.crates) - len(filled)


def _can_be_at(room, crates, gone, at):
    """Tell whether a thing is a cell where a walker can be."""
    if not is_whole(at) or not 0 <= at < len(room.cells):
        return False
    return at not in crates and (at in gone or room.cells[at] not in "#xabAB")
