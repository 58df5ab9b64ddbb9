"""Whether a grammar leads out of what a paper lists."""

from roomsthrough.errors import TooMany


def is_closed_by(grammar, shaper, shapes):
    """Tell whether each production leads from all shapes of its names to a shape of its name.

    shapes is a dict from the names to dicts whose keys are the shapes. Where a room is too large, nothing is shown.
    """
    try:
        for production in grammar.rows:
            if not _leads_on(shaper, shapes, production):
                return False
    except TooMany:
        return False
    return True


def is_dict_of_lists(grammar, thing):
    """Tell whether a thing is a dict from just the names of the grammar to lists."""
    names = grammar.names()
    if not isinstance(thing, dict) or len(thing) != len(names):
        return False
    for name in names:
        if not isinstance(thing.get(name), list):
            return False
    return True


def rows_behind(names, shapes):
    """All tuples of shapes of some names, in their order."""
    if len(names) == 0:
        yield ()
    elif len(names) == 1:
        for one in shapes[names[0]]:
            yield (one,)
    else:
        for one in shapes[names[0]]:
            for other in shapes[names[1]]:
                yield (one, other)


def _leads_on(shaper, shapes, production):
    """Tell whether a production leads from all shapes of its names to a shape of its name."""
    name, room, names = production
    for row in rows_behind(names, shapes):
        if shaper.shape_behind(room, row) not in shapes[name]:
            return False
    return True
