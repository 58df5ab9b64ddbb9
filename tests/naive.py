"""A second program for the same puzzles, made another way, that the tests hold against the package.

Cells are tuples (line, place), a frame is one room that is being visited, and whole levels are searched
position by position, letter by letter, with no tables at all.
"""

import itertools

from roomsthrough.levels import Level
from roomsthrough.rooms import Room
from roomsthrough.rules import Rules

DELTAS = {"u": (-1, 0), "d": (1, 0), "l": (0, -1), "r": (0, 1)}
ARROWS = {"^": (-1, 0), "v": (1, 0), "<": (0, -1), ">": (0, 1)}
ALL_RULES = [Rules(cap, strong, pull) for cap in (1, 2) for strong in (False, True) for pull in (False, True)]


def board_of(room):
    return {(y, x): mark for y, row in enumerate(room.rows) for x, mark in enumerate(row)}


def cells_of(board, mark):
    return frozenset(cell for cell in board if board[cell] == mark)


def plus(cell, delta, times=1):
    return (cell[0] + times * delta[0], cell[1] + times * delta[1])


def holds_crate(board, floor, cell):
    return cell in board and (cell in floor or board[cell] in {".", "p", "o"})


def naive_step(board, rules, frame, letter):
    """frame: (walker, crates, floor, used, bag) with frozensets; the frame behind the letter or None."""
    walker, crates, floor, used, bag = frame
    pulling = letter.isupper()
    if pulling and not rules.pull:
        return None
    delta = DELTAS[letter.lower()]
    goal = plus(walker, delta)
    if board[walker] == "*" or board.get(goal, "#") == "#":
        return None
    if board[walker] in ARROWS and ARROWS[board[walker]] != delta:
        return None
    line = []
    while plus(walker, delta, 1 + len(line)) in crates:
        line.append(plus(walker, delta, 1 + len(line)))
    new_crates, new_floor, keys = set(crates), set(floor), {"a": bag[0], "b": bag[1]}
    if line:
        if pulling or len(line) > (2 if rules.strong else 1):
            return None
        target = plus(line[-1], delta)
        new_crates -= set(line)
        new_crates |= {plus(crate, delta) for crate in line}
        if target in board and board[target] == "x" and target not in floor:
            new_crates.remove(target)
            new_floor.add(target)
        elif not holds_crate(board, floor, target):
            return None
    elif goal not in floor:
        mark = board[goal]
        if mark == "x":
            return None
        if mark == "g" and cells_of(board, "p") - crates:
            return None
        if mark in ("a", "b"):
            keys[mark] += 1
            new_floor.add(goal)
            if keys[mark] > rules.cap:
                return None
        if mark in ("A", "B"):
            keys[mark.lower()] -= 1
            new_floor.add(goal)
            if keys[mark.lower()] < 0:
                return None
    if pulling:
        behind = plus(walker, delta, -1)
        if behind not in crates or not holds_crate(board, floor, walker):
            return None
        new_crates.remove(behind)
        new_crates.add(walker)
    return (goal, frozenset(new_crates), frozenset(new_floor), used, (keys["a"], keys["b"]))


def frame_of(room, state):
    width = len(room.rows[0])
    at, crates, gone, used, bag = state
    where = [divmod(cell, width) for cell in range(len("".join(room.rows)))]
    return (where[at], frozenset(where[c] for c in crates), frozenset(where[c] for c in gone), frozenset(used), bag)


def state_of(room, frame):
    width = len(room.rows[0])
    walker, crates, floor, used, bag = frame

    def number(cell):
        return cell[0] * width + cell[1]

    return (
        number(walker),
        tuple(sorted(number(c) for c in crates)),
        tuple(sorted(number(c) for c in floor)),
        tuple(sorted(used)),
        bag,
    )


def all_states(room, rules):
    """Every state of the room, whether it can be reached or not, by putting everything everywhere."""
    marks = "".join(room.rows)
    cells = range(len(marks))
    first_crates = marks.count("o")
    found = []
    for gone in subsets([c for c in cells if marks[c] in "abABx"]):
        filled = len([c for c in gone if marks[c] == "x"])
        places = [c for c in cells if marks[c] in ".po" or c in gone]
        if filled > first_crates:
            continue
        for crates in itertools.combinations(places, first_crates - filled):
            for at in cells:
                if at in crates or marks[at] == "#" or (marks[at] in "abABx" and at not in gone):
                    continue
                for used in subsets(range(1, room.mouths + 1)):
                    for bag in rules.bags():
                        found.append((at, crates, gone, used, bag))
    return found


def subsets(things):
    things = list(things)
    return [part for many in range(len(things) + 1) for part in itertools.combinations(things, many)]


def start_frame(level, bag):
    board = board_of(level.room)
    (entry,) = cells_of(board, "@")
    return (entry, cells_of(board, "o"), frozenset(), frozenset(), bag)


def naive_costs(level, rules, bag, most=60000):
    """The dict from outcomes to least lengths of plays, by trying all plays; None if they are too many."""
    boards = {path: board_of(part.room) for path, part in parts(level)}
    position = (((), start_frame(level, bag)),)
    seen = {position}
    told = {}
    now = [position]
    letters = 0
    while now:
        letters += 1
        behind = []
        for position in now:
            for _, after in naive_letters(level, boards, rules, position):
                if isinstance(after, str) or after[0] == "out":
                    told.setdefault("star" if after == "star" else after[1], letters)
                elif after not in seen:
                    seen.add(after)
                    behind.append(after)
        if len(seen) > most:
            return None
        now = behind
    return told


def naive_letters(level, boards, rules, position):
    """Each letter that is possible with what it leads to: a position, ("out", bag) or "star"."""
    path, frame = position[-1]
    board = boards[path]
    walker, crates, floor, used, bag = frame
    found = []
    for letter in "udlrUDLR":
        after = naive_step(board, rules, frame, letter)
        if after is not None:
            found.append((letter, "star" if board[after[0]] == "*" else position[:-1] + ((path, after),)))
    mark = board[walker]
    if mark in ("1", "2") and int(mark) not in used:
        number = int(mark)
        child = level.part(path + (number,))
        waiting = (path, (walker, crates, floor, used | {number}, None))
        found.append(("i", position[:-1] + (waiting, (path + (number,), start_frame(child, bag)))))
    if mark == "@":
        if len(position) == 1:
            found.append(("o", ("out", bag)))
        else:
            above, waiting = position[-2]
            found.append(("o", position[:-2] + ((above, waiting[:4] + (bag,)),)))
    return found


def naive_positions(level, rules, bag, most=6000):
    """All positions with the letters that are possible there, those with fewer letters first; None if too many."""
    boards = {path: board_of(part.room) for path, part in parts(level)}
    found = {(((), start_frame(level, bag)),): None}
    todo = list(found)
    for position in todo:
        found[position] = naive_letters(level, boards, rules, position)
        for _, after in found[position]:
            if is_position(after) and after not in found:
                found[after] = None
                todo.append(after)
        if len(found) > most:
            return None
    return found


def is_position(after):
    return after != "star" and after[0] != "out"


def naive_options(positions):
    """For each position the set of the outcomes that can still be had."""
    ahead, told = {}, {position: set() for position in positions}
    todo = []
    for position, letters in positions.items():
        for _, after in letters:
            if is_position(after):
                ahead.setdefault(after, []).append(position)
            else:
                todo.append((position, "star" if after == "star" else after[1]))
    while todo:
        position, outcome = todo.pop()
        if outcome not in told[position]:
            told[position].add(outcome)
            todo.extend((earlier, outcome) for earlier in ahead.get(position, ()))
    return told


def position_of(level, position):
    """A position as the package tells it."""
    return tuple(state_of(level.part(path).room, frame) for path, frame in position)


def naive_frail(rules, told):
    """The least ones of some sets of outcomes, in the order of the document."""
    order = [*rules.bags(), "star"]
    sets = {frozenset(one) for one in told}
    least = [one for one in sets if not any(other < one for other in sets)]
    rows = sorted((len(one), sorted(order.index(outcome) for outcome in one)) for one in least)
    return [tuple(order[at] for at in places) for _, places in rows]


def parts(level, path=()):
    found = [(path, level)]
    for number, child in enumerate(level.children, 1):
        found += parts(child, path + (number,))
    return found


def random_room(chance, mouths, most=12, marks="....oxpgabAB^v<>#*"):
    """A room with so many mouths and at most so many cells."""
    while True:
        lines, across = chance.randint(1, 4), chance.randint(1, 6)
        if lines * across <= most and lines * across >= mouths + 1:
            break
    while True:
        cells = [chance.choice(marks) for _ in range(lines * across)]
        special = chance.sample(range(lines * across), mouths + 1)
        for cell, mark in zip(special, "@12"):
            cells[cell] = mark
        text = "".join(cells)
        if text.count("*") > 1 or text.count("o") > 3 or sum(text.count(k) for k in "abAB") > 4:
            continue
        return Room([text[at:at + across] for at in range(0, len(text), across)])


def random_level(chance, rooms, most=9, marks="....oxpgabAB^v<>#*"):
    """A level with so many rooms."""
    if rooms == 1:
        return Level(random_room(chance, 0, most, marks))
    if rooms == 2 or chance.random() < 0.5:
        return Level(random_room(chance, 1, most, marks), [random_level(chance, rooms - 1, most, marks)])
    first = chance.randint(1, rooms - 2)
    children = [random_level(chance, first, most, marks), random_level(chance, rooms - 1 - first, most, marks)]
    return Level(random_room(chance, 2, most, marks), children)
