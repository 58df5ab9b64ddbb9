"""Rooms: small boards of cells."""

from roomsthrough.errors import BadCell, BadMouth, BadRoom
from roomsthrough.plain import is_row, is_whole

MARKS = "#.^v<>abABoxpg*@12"
MOST_LINES = 5
MOST_ACROSS = 6
MOST_CELLS = 24
MOST_CRATES = 3
MOST_KEYS_AND_DOORS = 4


class Room:
    """A board, its cells numbered line by line, from left to right."""

    def __init__(self, rows):
        _need_lines(rows)
        cells = "".join(rows)
        if not _is_whole_room(cells):
            raise BadRoom(-1)
        self.rows = tuple(rows)
        self.cells = cells
        self.entry = cells.find("@")
        self.mouths = _many(cells, "12")
        self.crates = _places(cells, "o")
        self.plates = _places(cells, "p")
        # Every step of every search asks this: it is made once for each room.
        self.near = {
            "u": _neighbours(self.rows, -1, 0),
            "d": _neighbours(self.rows, 1, 0),
            "l": _neighbours(self.rows, 0, -1),
            "r": _neighbours(self.rows, 0, 1),
        }

    def __eq__(self, other):
        return isinstance(other, Room) and self.rows == other.rows

    def cell(self, index):
        """The character of the cell with this number."""
        if not is_whole(index) or not 0 <= index < len(self.cells):
            raise BadCell(index)
        return self.cells[index]

    def mouth(self, number):
        """The number of the cell of the mouth with this number."""
        if not is_whole(number) or not 1 <= number <= self.mouths:
            raise BadMouth(number)
        return self.cells.find(str(number))

    def mirrored(self):
        """The room as it is seen from the other side."""
        return Room([row[::-1].translate({ord("<"): ">", ord(">"): "<"}) for row in self.rows])


def need_room(room):
    """Raise BadRoom(room) for what is not a room."""
    if not isinstance(room, Room):
        raise BadRoom(room)


def _need_lines(rows):
    """Raise BadRoom for what is not a row of strings that could be the lines of a room."""
    if not is_row(rows) or not 1 <= len(rows) <= MOST_LINES:
        raise BadRoom(-1)
    for at, row in enumerate(rows):
        if not _is_line(row) or len(row) != len(rows[max(at - 1, 0)]):
            raise BadRoom(at)


def _is_line(thing):
    """Tell whether a thing is a string that could be a line of a room."""
    if not isinstance(thing, str) or not 1 <= len(thing) <= MOST_ACROSS:
        return False
    for mark in thing:
        if mark not in MARKS:
            return False
    return True


def _many(cells, marks):
    """How many cells have one of the marks."""
    return sum([cells.count(mark) for mark in marks])


def _is_whole_room(cells):
    """Tell whether the characters together have what a room must have, and no more than it can have."""
    if len(cells) > MOST_CELLS or cells.count("@") != 1:
        return False
    if max([cells.count(mark) for mark in "*12"]) > 1 or "2" in cells and "1" not in cells:
        return False
    return cells.count("o") <= MOST_CRATES and _many(cells, "abAB") <= MOST_KEYS_AND_DOORS


def _places(cells, mark):
    """The ascending tuple of the cells with a mark."""
    return tuple([cell for cell in range(len(cells)) if cells[cell] == mark])


def _neighbours(rows, down, across):
    """For each cell the one that lies so far down and across of it, -1 if there is none or a wall."""
    width = len(rows[0])
    found = []
    for cell in range(len(rows) * width):
        line, place = cell // width + down, cell % width + across
        is_there = 0 <= line < len(rows) and 0 <= place < width and rows[line][place] != "#"
        found.append(line * width + place if is_there else -1)
    return tuple(found)
