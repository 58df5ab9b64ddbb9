"""How many derivations of the start have so many rooms, and which ones they are."""

from roomsthrough.counting import Counting
from roomsthrough.errors import BadCount, BadNumber
from roomsthrough.grammars import need_grammar
from roomsthrough.kinship import Kinship
from roomsthrough.levels import MOST_ROOMS
from roomsthrough.plain import is_whole
from roomsthrough.reach import Reach
from roomsthrough.tours import Shaper
from roomsthrough.wishes import need_question


def count(grammar, rooms):
    """The number of derivations of the start with just so many rooms."""
    need_grammar(grammar)
    _need_rooms(rooms)
    ways = {(index, names): name for index, (name, _, names) in enumerate(grammar.rows)}
    return Counting(ways, rooms).total([grammar.start], rooms)


def count_with(grammar, rules, wish, rooms):
    """The number of those whose levels fulfil the wish."""
    need_question(grammar, rules, wish)
    _need_rooms(rooms)
    counting, labels = _counting(grammar, rules, wish, rooms)
    return counting.total(labels, rooms)


def derivation_at(grammar, rules, wish, rooms, number):
    """The one with a number, from 0, among those with just so many rooms whose levels fulfil the wish."""
    need_question(grammar, rules, wish)
    _need_rooms(rooms)
    if not is_whole(number) or number < 0:
        raise BadNumber(number)
    counting, labels = _counting(grammar, rules, wish, rooms)
    if number >= counting.total(labels, rooms):
        raise BadNumber(number)
    wanted = {label: [0] * rooms + [1] for label in labels}
    return counting.pick(wanted, number)[0]


def _need_rooms(rooms):
    """Raise BadCount(rooms) for what is not a number of rooms that a level can have, or 0."""
    if not is_whole(rooms) or not 0 <= rooms <= MOST_ROOMS:
        raise BadCount(rooms)


def _counting(grammar, rules, wish, rooms):
    """The numbers of derivations by classes of kin, and the classes of the start that fulfil the wish.

    Classes are enough: what is kin stays kin in each place of each production. There are far fewer of them than fulls.
    """
    reach = Reach(grammar, Shaper(rules))
    kinship = Kinship(reach, rules, wish)
    labels = kinship.labels
    ways = {}
    for (index, children), number in reach.behind.items():
        ways[(index, tuple([labels[child] for child in children]))] = labels[number]
    good = {labels[number]: True for number in kinship.good}
    return (Counting(ways, rooms), list(good))
