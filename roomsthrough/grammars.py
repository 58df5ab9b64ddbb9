"""Grammars: productions that make levels, and the derivations that tell how a level is made."""

from roomsthrough.errors import BadCount, BadDerivation, BadGrammar, BadName
from roomsthrough.levels import MOST_ROOMS, Level
from roomsthrough.plain import is_name, is_row, is_whole
from roomsthrough.rooms import Room

MOST_PRODUCTIONS = 10
MOST_NAMES = 5
MOST_DERIVED = 30


class Grammar:
    """A row of productions, tuples (name, room, names behind its mouths), and the name to start with."""

    def __init__(self, rows, start):
        if not is_row(rows) or not 1 <= len(rows) <= MOST_PRODUCTIONS:
            raise BadGrammar(-1)
        for at, production in enumerate(rows):
            if not is_production(production):
                raise BadGrammar(at)
        if not is_name(start):
            raise BadGrammar(len(rows))
        if len(_names_in(rows, start)) > MOST_NAMES:
            raise BadGrammar(-1)
        self.rows = tuple(rows)
        self.start = start

    def __eq__(self, other):
        return isinstance(other, Grammar) and self.rows == other.rows and self.start == other.start

    def names(self):
        """The ascending list of all names, also of those without a production."""
        return _names_in(self.rows, self.start)


def is_production(thing):
    """Tell whether a thing is a tuple (name, room, names behind its mouths)."""
    if not isinstance(thing, tuple) or len(thing) != 3:
        return False
    name, room, names = thing
    if not is_name(name) or not isinstance(room, Room) or not isinstance(names, tuple) or len(names) != room.mouths:
        return False
    for inner in names:
        if not is_name(inner):
            return False
    return True


def need_grammar(grammar):
    """Raise BadGrammar(grammar) for what is not a grammar."""
    if not isinstance(grammar, Grammar):
        raise BadGrammar(grammar)


def need_name(grammar, name):
    """Raise BadName(name) for what is not a name of the grammar."""
    if not is_name(name) or name not in grammar.names():
        raise BadName(name)


def joined(one, other, start):
    """The grammar with the productions of one and those of the other."""
    need_grammar(one)
    need_grammar(other)
    return Grammar(one.rows + other.rows, start)


def level_of(grammar, derivation):
    """The level that a derivation makes."""
    need_grammar(grammar)
    if not 1 <= _rooms_made(grammar, _name_made(grammar, derivation), derivation, MOST_ROOMS) <= MOST_ROOMS:
        raise BadDerivation(derivation)
    return _built(grammar, derivation)


def is_made(grammar, name, thing):
    """Tell whether a thing is a derivation of a name."""
    need_grammar(grammar)
    return _rooms_made(grammar, name, thing, None) > 0


def derivations(grammar, name, most):
    """All derivations of a name with at most so many rooms, those with fewer rooms first."""
    need_grammar(grammar)
    need_name(grammar, name)
    if not is_whole(most) or not 0 <= most <= MOST_DERIVED:
        raise BadCount(most)
    totals = _totals(grammar, most)
    for rooms in list(totals[(name,)]):
        wanted = [rooms]
        for _, made in _derived(grammar, totals, name, wanted):
            yield made


def _names_in(rows, start):
    """The ascending list of the names in some productions, and the start."""
    found = {start: True}
    for name, _, names in rows:
        found[name] = True
        for inner in names:
            found[inner] = True
    return sorted(list(found))


def _name_made(grammar, thing):
    """The name of the production that a thing begins with, None if it does not begin so."""
    if not isinstance(thing, tuple) or len(thing) != 2 or not is_whole(thing[0]):
        return None
    return grammar.rows[thing[0]][0] if 0 <= thing[0] < len(grammar.rows) else None


def _rooms_made(grammar, name, thing, most):
    """How many rooms a derivation of a name has, 0 for what is none; counted no further than just beyond most."""
    rooms = 0
    # By hand, not by recursion: a derivation can be nested in any depth.
    todo = [(name, thing)]
    while todo and (most is None or rooms <= most):
        wanted, tree = todo.pop()
        made = _name_made(grammar, tree)
        if made is None or made != wanted:
            return 0
        names = grammar.rows[tree[0]][2]
        if not isinstance(tree[1], tuple) or len(tree[1]) != len(names):
            return 0
        rooms += 1
        todo.extend(list(zip(names, tree[1])))
    return rooms


def _built(grammar, derivation):
    """The level of a derivation that is known to be one."""
    index, inside = derivation
    return Level(grammar.rows[index][1], [_built(grammar, child) for child in inside])


def _totals(grammar, most):
    """For tuples of names the numbers of rooms, up to most, that made levels of these can have together.

    These are the tuples of the productions and their ends; each number is a key, so that it is found at once.
    """
    totals = {(name,): {} for name in grammar.names()}
    totals[()] = {0: True}
    for rooms in range(1, most + 1):
        found = [name for name, _, names in grammar.rows if _is_total(totals, names, rooms - 1)]
        for name in found:
            totals[(name,)][rooms] = True
    for _, _, names in grammar.rows:
        totals[names] = {total: True for total in range(most + 1) if _is_total(totals, names, total)}
    return totals


def _is_total(totals, names, total):
    """Tell whether made levels of the names can have so many rooms together."""
    if len(names) == 0:
        return total == 0
    for many in totals[(names[0],)]:
        if _is_total(totals, names[1:], total - many):
            return True
    return False


def _derived(grammar, totals, name, wanted):
    """The tuples (rooms, derivation) of a name with one of the wanted numbers of rooms, ascending by derivations."""
    for index, production in enumerate(grammar.rows):
        if production[0] == name:
            names = production[2]
            left = [rooms - 1 for rooms in wanted if rooms - 1 in totals[names]]
            for rooms, inside in _derived_in_row(grammar, totals, names, left):
                yield (rooms + 1, (index, inside))


def _derived_in_row(grammar, totals, names, wanted):
    """The tuples (rooms, derivations of the names) with one of the wanted numbers of rooms together, ascending.

    Each wanted number can be made, so that no search is in vain.
    """
    if len(wanted) == 0:
        return
    if len(names) == 0:
        yield (0, ())
        return
    name, others = names[0], names[1:]
    fits = [many for many in totals[(name,)] if _fits(totals, others, many, wanted)]
    for rooms, made in _derived(grammar, totals, name, fits):
        left = [total - rooms for total in wanted if total - rooms in totals[others]]
        for more, rest in _derived_in_row(grammar, totals, others, left):
            yield (rooms + more, (made, *rest))


def _fits(totals, others, many, wanted):
    """Tell whether so many rooms ahead of those of the other names can give a wanted number."""
    for total in wanted:
        if total - many in totals[others]:
            return True
    return False
