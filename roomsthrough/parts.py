"""The different parts of a level, so that equal ones are searched only once."""


def parts_of(level):
    """The list of the tuples (room, places of its children in this list), the level itself at the end."""
    found = []
    _place(level, found, {})
    return found


def _place(level, found, known):
    """The place of a part in the list, to which it is added if it is new."""
    inside = tuple([_place(child, found, known) for child in level.children])
    key = (level.room.rows, inside)
    if key not in known:
        known[key] = len(found)
        found.append((level.room, inside))
    return known[key]
