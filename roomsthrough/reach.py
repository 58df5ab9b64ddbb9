"""The shapes of the levels that a grammar makes, found in the order of their least derivations."""

from heapq import heappop, heappush

from roomsthrough.errors import TooMany

MOST_REACHED = 300


class Reach:
    """A number for each name and shape that are reached, in the order in which they are listed.

    What a shape is, the shaper tells. For each number: shapes has its shape, trees its least derivation. behind is
    the dict from all tuples (index of a production, numbers of its children) to the numbers that they make.
    """

    def __init__(self, grammar, shaper):
        self.grammar = grammar
        self.of_name = {name: [] for name in grammar.names()}
        self.shapes = []
        self.trees = []
        self.behind = {}
        self._shaper = shaper
        self._known = {}
        self._rooms = []
        self._made_of = []
        # The places of the numbers in the order in which Python compares their derivations.
        self._ranks = []
        self._waiting = {}
        self._queue = []
        self._find()

    def number_of(self, name, shape):
        """The number of a name and a shape, None if they are not reached."""
        return self._known.get((name, shape))

    def _find(self):
        """Find everything, one number of rooms after the other."""
        for index, production in enumerate(self.grammar.rows):
            if len(production[2]) == 0:
                self._wait(index, ())
        while self._queue:
            rooms = heappop(self._queue)
            candidates = self._waiting.pop(rooms)
            keys = [self._key(index, children) for index, children in candidates]
            found = self._least_new(candidates, keys)
            for key in sorted(list(found), key=lambda k: found[k]):
                self._add(key, found[key][0], found[key][2], rooms)
            for candidate, key in zip(candidates, keys):
                self.behind[candidate] = self._known[key]
            if len(found) > 0:
                self._rank()

    def _key(self, index, children):
        """The tuple (name, shape) that a production makes of the numbers of its children."""
        name, room, _ = self.grammar.rows[index]
        return (name, self._shaper.shape_behind(room, tuple([self.shapes[child] for child in children])))

    def _least_new(self, candidates, keys):
        """For each new one among the keys of candidates with equally many rooms, the least candidate."""
        found = {}
        for (index, children), key in zip(candidates, keys):
            order = (index, self._places(children), children)
            if key not in self._known and (key not in found or order < found[key]):
                found[key] = order
        return found

    def _add(self, key, index, children, rooms):
        """Give the next number to a tuple (name, shape), and let wait what can be made with it."""
        name, shape = key
        number = len(self.shapes)
        if number == MOST_REACHED:
            raise TooMany()
        self._known[key] = number
        self.of_name[name].append(number)
        self.shapes.append(shape)
        self.trees.append((index, tuple([self.trees[child] for child in children])))
        self._rooms.append(rooms)
        self._made_of.append((index, children))
        for at, production in enumerate(self.grammar.rows):
            for row in self._rows_with(number, name, production[2]):
                self._wait(at, row)

    def _rows_with(self, number, name, names):
        """The rows of the numbers of some names in which a new number stands."""
        if len(names) == 0:
            return []
        if len(names) == 1:
            return [(number,)] if names[0] == name else []
        found = []
        if names[0] == name:
            found += [(number, other) for other in self.of_name[names[1]]]
        if names[1] == name:
            found += [(other, number) for other in self.of_name[names[0]] if other != number]
        return found

    def _wait(self, index, children):
        """Let a production with the numbers of its children wait for its turn."""
        rooms = 1 + sum([self._rooms[child] for child in children])
        if rooms not in self._waiting:
            self._waiting[rooms] = []
            heappush(self._queue, rooms)
        self._waiting[rooms].append((index, children))

    def _rank(self):
        """Find the places again: derivations are compared by their indexes and then by the places of their parts."""
        orders = [(index, self._places(children)) for index, children in self._made_of]
        ranks = [0] * len(orders)
        for place, number in enumerate(sorted(range(len(orders)), key=lambda k: orders[k])):
            ranks[number] = place
        self._ranks = ranks

    def _places(self, children):
        return tuple([self._ranks[child] for child in children])
