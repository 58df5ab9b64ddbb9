"""Levels and grammars as texts."""

from roomsthrough.errors import BadGrammar, BadRoom, BadText
from roomsthrough.grammars import Grammar, is_production, need_grammar
from roomsthrough.levels import Level, need_level
from roomsthrough.plain import is_name
from roomsthrough.rooms import Room


def write_level(level):
    """The text with a line for each room: the level's own one, then those of its children, in order."""
    need_level(level)
    return "\n".join(_lines_of(level))


def read_level(text):
    """The level of such a text."""
    lines = _lines_in(text)
    rooms = []
    missing = 1
    for at, line in enumerate(lines):
        room = _room_in(line) if missing > 0 else None
        if room is None:
            raise BadText(at + 1)
        rooms.append(room)
        missing += room.mouths - 1
    if missing > 0:
        raise BadText(len(lines) + 1)
    return _built(rooms)


def write_grammar(grammar):
    """The text with a line for the start and one for each production."""
    need_grammar(grammar)
    lines = ["start " + grammar.start]
    for name, room, names in grammar.rows:
        lines.append(" ".join([name, "/".join(room.rows), *names]))
    return "\n".join(lines)


def read_grammar(text):
    """The grammar of such a text."""
    lines = _lines_in(text)
    words = lines[0].split(" ")
    if len(words) != 2 or words[0] != "start" or not is_name(words[1]):
        raise BadText(1)
    if len(lines) == 1:
        raise BadText(2)
    rows = []
    for at, line in enumerate(lines[1:]):
        production = _production_in(line)
        if not is_production(production):
            raise BadText(at + 2)
        rows.append(production)
    try:
        return Grammar(rows, words[1])
    except BadGrammar:
        raise BadText(-1) from None


def _lines_in(text):
    """The list of the lines of a text."""
    if not isinstance(text, str):
        raise BadText(-1)
    return text.split("\n")


def _lines_of(level):
    """The list of the lines of a level."""
    lines = ["/".join(level.room.rows)]
    for child in level.children:
        lines.extend(_lines_of(child))
    return lines


def _room_in(line):
    """The room that a line tells, None if it tells none."""
    try:
        return Room(line.split("/"))
    except BadRoom:
        return None


def _production_in(line):
    """The tuple of what a line tells of a production, None for a line of less than two words."""
    words = line.split(" ")
    if len(words) < 2:
        return None
    return (words[0], _room_in(words[1]), tuple(words[2:]))


def _built(rooms):
    """The level of its rooms, each of them ahead of those of its children."""
    levels = []
    for room in rooms[::-1]:
        children = [levels.pop() for _ in range(room.mouths)]
        levels.append(Level(room, children))
    return levels[0]
