"""Kin fulls, which no context can part, and contexts that part the other ones."""

from roomsthrough.errors import BadFull
from roomsthrough.fulls import Full, full_with
from roomsthrough.grammars import is_made, need_name
from roomsthrough.kinship import Kinship
from roomsthrough.plain import is_row, is_whole
from roomsthrough.reach import Reach
from roomsthrough.reaching import need_reached
from roomsthrough.tours import Shaper
from roomsthrough.wishes import need_question


def kin(grammar, rules, wish, name):
    """The list of the classes of kin fulls of a name, those with earlier fulls first."""
    need_question(grammar, rules, wish)
    need_name(grammar, name)
    reach = Reach(grammar, Shaper(rules))
    labels = Kinship(reach, rules, wish).labels
    classes = {}
    for number in reach.of_name[name]:
        classes.setdefault(labels[number], []).append(full_with(rules, reach.shapes[number]))
    return list(classes.values())


def parting(grammar, rules, wish, name, one, other):
    """A context with as few tuples as possible that parts two fulls of a name, None if they are kin."""
    kinship, first, second = _kinship_with(grammar, rules, wish, name, one, other)
    return kinship.parting(first, second)


def is_parting(grammar, rules, wish, name, one, other, thing):
    """Tell whether a thing is a context that parts two fulls of a name."""
    kinship, first, second = _kinship_with(grammar, rules, wish, name, one, other)
    if not is_row(thing):
        return False
    reach = kinship.reach
    wanted = name
    for step in thing:
        if not _is_step(grammar, wanted, step):
            return False
        index, place, derivations = step
        others = [_number_made(reach, made) for made in derivations]
        first = reach.behind[(index, (*others[:place], first, *others[place:]))]
        second = reach.behind[(index, (*others[:place], second, *others[place:]))]
        wanted = grammar.rows[index][0]
    return wanted == grammar.start and (first in kinship.good) != (second in kinship.good)


def _kinship_with(grammar, rules, wish, name, one, other):
    """The kinship, and the numbers of the two fulls of a name; or the error of the first argument that is wrong."""
    need_question(grammar, rules, wish)
    need_name(grammar, name)
    for thing in (one, other):
        if not isinstance(thing, Full):
            raise BadFull(thing)
    reach = Reach(grammar, Shaper(rules))
    first = need_reached(reach, rules, name, one)
    second = need_reached(reach, rules, name, other)
    return (Kinship(reach, rules, wish), first, second)


def _is_step(grammar, wanted, thing):
    """Tell whether a thing is a tuple (index, place, derivations) of a context around levels of the wanted name."""
    if not isinstance(thing, tuple) or len(thing) != 3:
        return False
    index, place, derivations = thing
    if not is_whole(index) or not 0 <= index < len(grammar.rows):
        return False
    names = grammar.rows[index][2]
    if not is_whole(place) or not 0 <= place < len(names) or names[place] != wanted:
        return False
    others = names[:place] + names[place + 1:]
    if not isinstance(derivations, tuple) or len(derivations) != len(others):
        return False
    for other, made in zip(others, derivations):
        if not is_made(grammar, other, made):
            return False
    return True


def _number_made(reach, derivation):
    """The number of what a derivation makes."""
    todo = [(derivation, False)]
    numbers = []
    # By hand, not by recursion: a derivation can be nested in any depth.
    while todo:
        made, is_ready = todo.pop()
        index, inside = made
        if is_ready:
            first = len(numbers) - len(inside)
            children = tuple(numbers[first:])
            del numbers[first:]
            numbers.append(reach.behind[(index, children)])
        else:
            todo.append((made, True))
            todo.extend([(child, False) for child in inside[::-1]])
    return numbers[0]
