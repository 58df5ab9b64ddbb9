"""Levels: trees of rooms."""

from roomsthrough.errors import BadCount, BadLevel, BadPath, BadRoom, TooMany
from roomsthrough.plain import is_row, is_whole
from roomsthrough.rooms import need_room

MOST_ROOMS = 60
MOST_IN_ROW = 59


class Level:
    """A room with a level behind each of its mouths."""

    def __init__(self, room, children=()):
        need_room(room)
        if not is_row(children) or len(children) != room.mouths:
            raise BadLevel(-1)
        for at, child in enumerate(children):
            if not isinstance(child, Level):
                raise BadLevel(at)
        rooms = 1 + sum([child.rooms for child in children])
        if rooms > MOST_ROOMS:
            raise TooMany()
        self.room = room
        self.children = tuple(children)
        self.rooms = rooms
        self.depth = 1 + max([child.depth for child in children], default=0)

    def __eq__(self, other):
        return isinstance(other, Level) and self.room == other.room and self.children == other.children

    def part(self, path):
        """The level within at a tuple of mouth numbers."""
        if not isinstance(path, tuple):
            raise BadPath(path)
        level = self
        for number in path:
            if not is_whole(number) or not 1 <= number <= len(level.children):
                raise BadPath(path)
            level = level.children[number - 1]
        return level

    def with_part(self, path, other):
        """The level with another one in the place of the part at the path."""
        self.part(path)
        if not isinstance(other, Level):
            raise BadLevel(-1)
        made = other
        for length in reversed(range(len(path))):
            above = self.part(path[:length])
            children = list(above.children)
            children[path[length] - 1] = made
            made = Level(above.room, children)
        return made


def need_level(level):
    """Raise BadLevel(level) for what is not a level."""
    if not isinstance(level, Level):
        raise BadLevel(level)


def need_row(room, end):
    """Raise the error of the first of these arguments that is wrong for a row of rooms with an end."""
    need_room(room)
    if room.mouths != 1:
        raise BadRoom(room)
    need_level(end)


def row_of(room, end, number):
    """The level of so many equal rooms with one mouth, one behind the other, and an end."""
    need_row(room, end)
    if not is_whole(number) or not 0 <= number <= MOST_IN_ROW:
        raise BadCount(number)
    level = end
    for _ in range(number):
        level = Level(room, [level])
    return level
