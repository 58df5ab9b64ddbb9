"""What can be had from each state of a room whose children have given shapes.

The SHAPE of a level tells its outcomes and its frailty in plain numbers: a tuple with a row for each bag, a tuple
of the mask of the outcomes and the tuple of the least masks of options.
"""

from roomsthrough.bags import STAR
from roomsthrough.errors import TooMany
from roomsthrough.grounds import Ground
from roomsthrough.masks import least_masks, outcomes_in
from roomsthrough.moving import MOST_STATES, come_back, first_state


class Tour:
    """A ground and the shapes of the children behind its mouths."""

    def __init__(self, ground, shapes):
        self.ground = ground
        self.shapes = shapes
        self._worth = {}
        self._backs = {}

    def met(self, state):
        """The list of the groups of all states that can be met from a state on."""
        found = [self.ground.group(state)]
        seen = {found[0]: True}
        many = 0
        at = 0
        while at < len(found):
            many += len(self.ground.members[found[at]])
            if many > MOST_STATES:
                raise TooMany()
            for after in self._leads(found[at]):
                if after not in seen:
                    seen[after] = True
                    found.append(after)
            at += 1
        return found

    def worth(self, state):
        """The mask of the options of being in a state."""
        number = self.ground.group(state)
        if number not in self._worth:
            self._weigh(self.met(state))
        return self._worth[number]

    def worth_behind(self, state, mouth, mask):
        """The mask of what is possible with the outcomes of a mask behind a mouth, gone into from a state."""
        found = mask & self.ground.bits[STAR]
        for back in self._states_back(state, mouth, mask):
            found |= self.worth(back)
        return found

    def row(self, state, mouth):
        """The row of the shape of the child behind a mouth for the bag that is carried in a state."""
        return self.shapes[mouth - 1][self.ground.places[state[4]]]

    def _leads(self, number):
        """The list of the groups that a step or a child's bag leads to from a group."""
        found = list(self.ground.followers[number])
        for state, mouth in self.ground.doors[number]:
            for back in self._states_back(state, mouth, self.row(state, mouth)[0]):
                found.append(self.ground.group(back))
        return found

    def _weigh(self, numbers):
        """Find out what the groups are worth, those first that are behind others: more mouths used, lower numbers."""
        members = self.ground.members
        for number in sorted(numbers, key=lambda k: (-len(members[k][0][3]), k)):
            mask = self.ground.ends[number]
            for after in self.ground.followers[number]:
                mask |= self._worth[after]
            for state, mouth in self.ground.doors[number]:
                mask |= self.worth_behind(state, mouth, self.row(state, mouth)[0])
            self._worth[number] = mask

    def _states_back(self, state, mouth, mask):
        """The list of the states of coming back with the bags of a mask."""
        key = (state, mask)
        if key not in self._backs:
            bags = [outcome for outcome in outcomes_in(self.ground.bits, mask) if outcome != STAR]
            self._backs[key] = [come_back(state, mouth, bag) for bag in bags]
        return self._backs[key]


def shape_of(ground, shapes):
    """The shape of a level with this ground's room first whose children have these shapes."""
    return tuple([_row_for(ground, shapes, bag) for bag in ground.places])


def shapes_of_parts(parts, rules):
    """The list of the shapes of the parts of a level, each of which stands behind its children, and of their tours."""
    grounds = {}
    known = {}
    found = []
    tours = []
    for room, inside in parts:
        if room.rows not in grounds:
            grounds[room.rows] = Ground(room, rules)
        shapes = tuple([found[child] for child in inside])
        key = (room.rows, shapes)
        if key not in known:
            known[key] = shape_of(grounds[room.rows], shapes)
        found.append(known[key])
        tours.append(Tour(grounds[room.rows], shapes))
    return (found, tours)


def _row_for(ground, shapes, bag):
    """The row of the shape for whoever comes with a bag."""
    tour = Tour(ground, shapes)
    first = first_state(ground.room, bag)
    options = {}
    for number in tour.met(first):
        state = ground.members[number][0]
        # A play on the star has ended: what can be had there is no option.
        if ground.room.cells[state[0]] != "*":
            options[tour.worth(state)] = True
        for state, mouth in ground.doors[number]:
            for mask in tour.row(state, mouth)[1]:
                options[tour.worth_behind(state, mouth, mask)] = True
    return (tour.worth(first), tuple(least_masks(list(options))))
