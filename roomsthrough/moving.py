"""How walkers and crates move in a room. Nothing is checked here: each state is one of the room."""

STEPS = "udlr"
STEPS_WITH_PULLING = "udlrUDLR"
BACK = {"u": "d", "d": "u", "l": "r", "r": "l"}
ONE_WAY = {"^": "u", "v": "d", "<": "l", ">": "r"}
MOST_STATES = 3000


def first_state(room, bag):
    """The state of whoever has just come into the room with a bag."""
    return (room.entry, room.crates, (), (), bag)


def can_lie(room, gone, cell):
    """Tell whether a crate can lie on a cell, as far as the cell itself tells."""
    return room.cells[cell] in ".po" or cell in gone


def moved(room, rules, state, letter):
    """The state behind a step with one of the eight letters, None if it is not possible."""
    at, crates, gone, used, bag = state
    way = letter.lower()
    mark = room.cells[at]
    goal = room.near[way][at]
    if goal < 0 or mark == "*" or ONE_WAY.get(mark, way) != way:
        return None
    if goal in crates:
        return _pushed(room, rules, state, way) if letter == way else None
    entered = _entered(room, rules, state, goal)
    if entered is None:
        return None
    if letter != way:
        crates = _pulled(room, rules, state, way)
        if crates is None:
            return None
    gone, bag = entered
    return (goal, crates, gone, used, bag)


def moves(room, rules, state):
    """The list of the tuples (letter, state behind it) of all steps that are possible."""
    found = []
    for letter in STEPS_WITH_PULLING if rules.pull else STEPS:
        after = moved(room, rules, state, letter)
        if after is not None:
            found.append((letter, after))
    return found


def mouth_here(room, state):
    """The number of the mouth that the walker can go in at, 0 if there is none."""
    mark = room.cells[state[0]]
    if mark in "12" and int(mark) not in state[3]:
        return int(mark)
    return 0


def come_back(state, number, bag):
    """The state of whoever went in at the mouth with this number and came out with a bag."""
    at, crates, gone, used = state[:4]
    return (at, crates, gone, _with_one(used, number), bag)


def _with_one(numbers, number):
    """The ascending tuple with one number more."""
    return tuple(sorted([*numbers, number]))


def _entered(room, rules, state, goal):
    """What is gone and the bag, behind a step onto a cell without a crate; None if it is not possible."""
    crates, gone, bag = state[1], state[2], state[4]
    mark = room.cells[goal]
    if goal in gone:
        return (gone, bag)
    if mark == "x" or mark == "g" and not _is_gate_open(room, crates):
        return None
    if mark not in "abAB":
        return (gone, bag)
    changed = _changed_bag(rules, bag, mark)
    if changed is None:
        return None
    return (_with_one(gone, goal), changed)


def _is_gate_open(room, crates):
    """Tell whether there is a crate on each plate."""
    for plate in room.plates:
        if plate not in crates:
            return False
    return True


def _changed_bag(rules, bag, mark):
    """The bag with the key that is taken, or without the one that a door uses up; None if that cannot be."""
    change = 1 if mark in "ab" else -1
    of_a, of_b = bag
    if mark in "aA":
        of_a += change
    else:
        of_b += change
    if min(of_a, of_b) < 0 or max(of_a, of_b) > rules.cap:
        return None
    return (of_a, of_b)


def _pushed(room, rules, state, way):
    """The state behind a step onto a crate, None if the crate cannot be pushed on."""
    at, crates, gone, used, bag = state
    ways = room.near[way]
    goal = ways[at]
    beyond = ways[goal]
    if rules.strong and beyond in crates:
        beyond = ways[beyond]
    if beyond < 0 or beyond in crates:
        return None
    # Where two crates move on by one, just the first place gets free and just the one beyond is taken.
    others = [crate for crate in crates if crate != goal]
    if can_lie(room, gone, beyond):
        return (goal, _with_one(others, beyond), gone, used, bag)
    if room.cells[beyond] == "x":
        return (goal, tuple(others), _with_one(gone, beyond), used, bag)
    return None


def _pulled(room, rules, state, way):
    """The crates behind a step with pulling, None if no crate can be pulled."""
    at, crates, gone = state[:3]
    behind = room.near[BACK[way]][at]
    if not rules.pull or behind not in crates or not can_lie(room, gone, at):
        return None
    return _with_one([crate for crate in crates if crate != behind], at)
