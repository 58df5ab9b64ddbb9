"""Values of every kind, and how the tests ask for an error."""

from roomsthrough.errors import BadBag, MazeError, TooMany
from roomsthrough.fulls import Full, full
from roomsthrough.grammars import Grammar
from roomsthrough.levels import Level
from roomsthrough.playing import Play
from roomsthrough.rooms import Room
from roomsthrough.rules import Rules
from roomsthrough.studio import Studio
from roomsthrough.tables import Table, none, same


def nested(kind, deep):
    thing = kind()
    for _ in range(deep - 1):
        thing = {"k": thing} if kind is dict else kind([thing])
    return thing


def anything():
    """New values of every kind that can be passed for an argument."""
    return [
        None, True, False, 0, 1, 2, 3, 5, 59, 60, 61, -1, -2, 10 ** 30, -(10 ** 30), 10 ** 5000,
        "", "a", "u", "@", "1", "star", "stars", "@.", "#" * 7, "x" * 100000, "\n", "\u00e9",
        [], (), {}, [None], [0], (0,), (0, 0), [0, 0], (0, 1), (True, False), (0, 0, 0), (0, 3), (-1, 0),
        (0, "0"), ("star",), ["star"], [(0, 0)], ("@",), ["@"], ["@", "@"], ["@1"], {0: 0}, {"a": (1,)},
        {(0, 0): []}, {(0, 0): [], (0, 1): [], (1, 0): [], (1, 1): []}, [[]] * 2, [None] * 100000,
        (0, (), (), (), (0, 0)), [(0, (), (), (), (0, 0))], nested(list, 20), nested(tuple, 20), nested(dict, 20),
        len, anything, lambda thing: thing, Rules, Rules(), Rules(2, True, True), Room, Room(["@"]), Room(["@1"]),
        Grammar, Grammar([("s", Room(["@"]), ())], "s"), ("s", Room(["@"]), ()), [("s", Room(["@1"]), ("s",))], (0, ()),
        ("solved", (0, 0)), ("not", ("idle", (0, 0))), ["solved", (0, 0)], "solved", (0, ((1, ()),)), {"s": []},
        Full, full(Level(Room(["@"])), Rules()), [full(Level(Room(["@"])), Rules(2))], {(0, 0): [()]},
        Level, Level(Room(["@"])), Level(Room(["@1"]), [Level(Room(["@*"]))]), Table, none(Rules()), same(Rules(2)),
        [none(Rules())], [Level(Room(["@"]))], [Room(["@"])], MazeError, BadBag(0), TooMany(),
        Play(Level(Room(["@"])), Rules()), Studio, Studio(Grammar([("s", Room(["@"]), ())], "s"), Rules()),
        [("s", full(Level(Room(["@"])), Rules()), 1)], [(0, 0, ())], ("won",), ("out", (0, 0)), "start s\ns @", "@1\n@",
    ]


def is_whole(thing):
    return isinstance(thing, int) and not isinstance(thing, bool)


def wanted_error(test, error, name, kept, function, *arguments):
    """Check that a call raises just this error, with what it keeps under the name (None for none)."""
    with test.assertRaises(MazeError) as caught:
        function(*arguments)
    test.assertEqual(error.__name__, caught.exception.__class__.__name__)
    if name is not None:
        held = getattr(caught.exception, name)
        test.assertTrue(held is kept or (held == kept and held.__class__ is kept.__class__), name)
