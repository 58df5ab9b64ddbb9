"""What can be had from each state of a room whose children have given shapes.

The SHAPE of a level tells its outcomes and its frailty in plain numbers: a tuple with a row for each bag, a tuple
of the mask of the outcomes and the tuple of the least masks of options.
"""

from roomsthrough.bags import STAR
from roomsthrough.errors import TooMany
from roomsthrough.grounds import Ground
from roomsthrough.masks import least_masks
from roomsthrough.moving import MOST_STATES, first_state

MANY_COUNTS = 100


class Tour:
    """A ground and the shapes of the children behind its mouths.

    The VIEW of a group is a tuple: the mask of its worth, the tuple of the least masks of options from there on, and
    the tuple of the rows of the shapes that were asked for, in this order, each as (child, place of the bag). Where
    just these rows are the same, the view is the same, too, with whichever shapes.
    """

    def __init__(self, ground, shapes):
        self.ground = ground
        self.shapes = shapes
        self._worth = {}
        self._views = {}

    def met(self, state):
        """The list of the groups of all states that can be met from a state on."""
        found = [self.ground.group(state, MOST_STATES)]
        seen = {found[0]: True}
        many = 0
        at = 0
        while at < len(found):
            number = found[at]
            many += len(self.ground.members[number])
            if many > MOST_STATES:
                raise TooMany()
            for after in self._leads(number):
                if after not in seen:
                    seen[after] = True
                    found.append(after)
            at += 1
        return found

    def worth(self, state):
        """The mask of the options of being in a state."""
        number = self.ground.group(state)
        if number not in self._worth:
            self._look(number)
        return self._worth[number]

    def worth_behind(self, state, mouth, mask):
        """The mask of what is possible with the outcomes of a mask behind a mouth, gone into from a state."""
        found = mask & self.ground.bits[STAR]
        for _, back in self.ground.backs(state, mouth, mask):
            found |= self._view(back)[0]
        return found

    def row(self, state, mouth):
        """The row of the shape of the child behind a mouth for the bag that is carried in a state."""
        return self.shapes[mouth - 1][self.ground.places[state[4]]]

    def row_from(self, first):
        """The row of the shape of the whole, for whoever begins in a state."""
        number = self.ground.group(first, MOST_STATES)
        # Whatever is known was counted when it was found.
        if not self.ground.is_small and self._known_view(number) is None:
            self._count(first)
        return self._view(number)[:2]

    def _count(self, first):
        """Raise TooMany() if too many states can be met from a state on."""
        self.met(first)
        self.ground.counted += 1
        # In a grammar one room is toured thousands of times: a single larger count can stand for all the others.
        if self.ground.counted == MANY_COUNTS:
            self.ground.is_small = _is_small_with_all_bags(self.ground)

    def _leads(self, number):
        """The list of the groups that a step or a child's bag leads to from a group."""
        found = list(self.ground.followers[number])
        for state, mouth in self.ground.doors[number]:
            backs = self.ground.backs(state, mouth, self.row(state, mouth)[0], MOST_STATES)
            found.extend([back for _, back in backs])
        return found

    def _view(self, number):
        """The view of a group."""
        if number not in self._views:
            known = self._known_view(number)
            self._views[number] = self._look(number) if known is None else known
        return self._views[number]

    def _known_view(self, number):
        """The view of a group that was found with the same rows, None if there is none."""
        node = self.ground.views[number]
        while node is not None and "ask" in node:
            child, at = node["ask"]
            node = node.get(self.shapes[child][at])
        return None if node is None else node.get("view")

    def _keep(self, number, view):
        """Keep the view of a group, to be found by the rows that are asked for, one after the other.

        This is a tree, as what is asked for next hangs on the rows that were told before alone.
        """
        node = self.ground.views[number]
        for child, at in view[2]:
            node["ask"] = (child, at)
            node = node.setdefault(self.shapes[child][at], {})
        node["view"] = view

    def _look(self, number):
        """Find the view of a group, and what all groups are worth that steps lead to from there."""
        ground = self.ground
        asked, options = {}, {}
        for group in ground.closure(number):
            mask = ground.ends[group]
            for after in ground.followers[group]:
                mask |= self._worth[after]
            for state, mouth in ground.doors[group]:
                mask |= self._visit(state, mouth, asked, options)
            self._worth[group] = mask
            # A play on the star has ended: what can be had there is no option.
            if ground.room.cells[ground.members[group][0][0]] != "*":
                options[mask] = True
        view = (self._worth[number], tuple(least_masks(list(options))), tuple(asked))
        self._keep(number, view)
        return view

    def _visit(self, state, mouth, asked, options):
        """The mask of what is possible by going in at a mouth; adds what is asked for and the options behind it."""
        asked[(mouth - 1, self.ground.places[state[4]])] = True
        row, weak = self.row(state, mouth)
        every = row
        for mask in weak:
            every |= mask
        worths = []
        for bit, back in self.ground.backs(state, mouth, every):
            worth, inner, more = self._view(back)
            worths.append((bit, worth))
            for place in more:
                asked[place] = True
            if row & bit:
                for mask in inner:
                    options[mask] = True
        star = self.ground.bits[STAR]
        for mask in weak:
            options[_worth_of(worths, mask, star)] = True
        return _worth_of(worths, row, star)


def _is_small_with_all_bags(ground):
    """Tell whether not too many states can be met even if each bag can be carried out of each mouth."""
    bags = sum([ground.bits[bag] for bag in ground.places])
    shape = tuple([(bags, ()) for _ in ground.places])
    tour = Tour(ground, tuple([shape for _ in range(ground.room.mouths)]))
    try:
        for bag in ground.places:
            tour.met(first_state(ground.room, bag))
    except TooMany:
        return False
    return True


def _worth_of(worths, mask, star):
    """The mask of what is possible with the outcomes of a mask, where the tuples (bit, worth) tell it for each bag."""
    found = mask & star
    for bit, worth in worths:
        if mask & bit:
            found |= worth
    return found


class Shaper:
    """Finds the shapes of levels under some rules, with one ground for each room."""

    def __init__(self, rules):
        self.rules = rules
        self._grounds = {}
        self._known = {}

    def ground_of(self, room):
        """The ground of a room."""
        if room.rows not in self._grounds:
            self._grounds[room.rows] = Ground(room, self.rules)
        return self._grounds[room.rows]

    def shape_behind(self, room, shapes):
        """The shape of a level with this first room whose children have a tuple of shapes."""
        key = (room.rows, shapes)
        if key not in self._known:
            self._known[key] = shape_of(self.ground_of(room), shapes)
        return self._known[key]


class TwoShapers:
    """Finds the shapes of levels under two books of rules, side by side as tuples (shape, other shape)."""

    def __init__(self, rules, other):
        self._one = Shaper(rules)
        self._other = Shaper(other)

    def shape_behind(self, room, pairs):
        """The shapes of a level with this first room whose children have a tuple of such tuples."""
        shape = self._one.shape_behind(room, tuple([pair[0] for pair in pairs]))
        return (shape, self._other.shape_behind(room, tuple([pair[1] for pair in pairs])))


def shape_of(ground, shapes):
    """The shape of a level with this ground's room first whose children have these shapes."""
    tour = Tour(ground, shapes)
    return tuple([tour.row_from(first_state(ground.room, bag)) for bag in ground.places])


def shapes_of_parts(parts, rules):
    """The list of the shapes of the parts of a level, each of which stands behind its children, and of their tours."""
    shaper = Shaper(rules)
    found = []
    tours = []
    for room, inside in parts:
        shapes = tuple([found[child] for child in inside])
        found.append(shaper.shape_behind(room, shapes))
        tours.append(Tour(shaper.ground_of(room), shapes))
    return (found, tours)
