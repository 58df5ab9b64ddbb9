"""Least ways to a position of a level from which no good outcome can be had."""

from roomsthrough.bags import STAR
from roomsthrough.moving import mouth_here
from roomsthrough.ways import Ways


class Spoiling:
    """A level's ways, shapes and tours. What is good is a mask: the outcomes of a part that do not spoil the level."""

    def __init__(self, level, rules, shapes, tours):
        self.ways = Ways(level, rules)
        self.shapes = shapes
        self.tours = tours
        self._profiles = {}
        self._known = {}

    def way(self, part, bag, good):
        """A least play of a part to a position without good outcomes among its options, None if there is none."""
        found = self._least(part, bag, good)
        if found is None:
            return None
        _, state, deeper = found
        letters = self.ways.to_state(part, bag, state)
        if deeper is None:
            return letters
        child, carried, good_there = deeper
        return letters + "i" + self.way(child, carried, good_there)

    def _least(self, part, bag, good):
        """A tuple (letters, state, deeper) of such a play: deeper is None or tells how it goes on within a child."""
        key = (part, bag, good)
        if key not in self._known:
            self._known[key] = self._searched(part, bag, good)
        return self._known[key]

    def _searched(self, part, bag, good):
        weak = self.shapes[part][self.tours[part].ground.places[bag]][1]
        if 0 not in [mask & good for mask in weak]:
            return None
        here, deep = self._profile(part, bag)
        found = None
        for mask in here:
            letters, state = here[mask]
            if mask & good == 0 and (found is None or letters < found[0]):
                found = (letters, state, None)
        for key in deep:
            child, carried, pairs = key
            letters, state = deep[key]
            good_there = self._good_bags(pairs, good) | self.tours[part].ground.bits[STAR]
            inner = self._least(child, carried, good_there)
            if inner is not None and (found is None or letters + 1 + inner[0] < found[0]):
                found = (letters + 1 + inner[0], state, (child, carried, good_there))
        return found

    def _good_bags(self, pairs, good):
        """The mask of the bags behind which something good can be had."""
        mask = 0
        for bit, worth in pairs:
            if worth & good > 0:
                mask |= bit
        return mask

    def _profile(self, part, bag):
        """The least letters, with a state for each, by what a state is worth and by what each child's bag is worth."""
        if (part, bag) not in self._profiles:
            here, deep = {}, {}
            inside = self.ways.parts[part][1]
            best = self.ways.numbers(part, bag)
            for state in best:
                _keep(here, self.tours[part].worth(state), best[state], state)
                mouth = mouth_here(self.tours[part].ground.room, state)
                if mouth > 0:
                    key = (inside[mouth - 1], state[4], self._pairs(part, state, mouth))
                    _keep(deep, key, best[state], state)
            self._profiles[(part, bag)] = (here, deep)
        return self._profiles[(part, bag)]

    def _pairs(self, part, state, mouth):
        """The tuples (bit, worth) of the bags with which one can come back out of a child."""
        tour = self.tours[part]
        bits = [bit for outcome, bit in tour.ground.bits.items() if outcome != STAR]
        mask = tour.row(state, mouth)[0]
        return tuple([(bit, tour.worth_behind(state, mouth, bit)) for bit in bits if mask & bit])


def _keep(found, key, letters, state):
    """Keep the least number of letters for a key, with its state."""
    if key not in found or letters < found[key][0]:
        found[key] = (letters, state)
