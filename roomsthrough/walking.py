"""A walker in a level, who does what the letters of a play say."""

from roomsthrough.moving import STEPS_WITH_PULLING, come_back, first_state, moved, mouth_here

WON = ("won",)


class Walker:
    """The rooms that were gone into and not left, and the state of each."""

    def __init__(self, level, rules, bag):
        self.rules = rules
        self.levels = [level]
        self.states = [first_state(level.room, bag)]
        self.end = None

    def copied(self):
        """Another walker who has come just as far."""
        other = Walker(self.levels[0], self.rules, None)
        other.levels = list(self.levels)
        other.states = list(self.states)
        other.end = self.end
        return other

    def place(self):
        """The position, or how the play has ended."""
        return tuple(self.states) if self.end is None else self.end

    def walk_on(self, play):
        """Do as many of the letters as are possible, and tell how many that were."""
        for at, letter in enumerate(play):
            if not self._do(letter):
                return at
        return len(play)

    def _do(self, letter):
        """Do a letter, if it is possible, and tell whether it was."""
        if self.end is not None:
            return False
        if letter == "i":
            return self._go_in()
        if letter == "o":
            return self._go_out()
        return letter in STEPS_WITH_PULLING and self._step(letter)

    def _step(self, letter):
        room = self.levels[-1].room
        after = moved(room, self.rules, self.states[-1], letter)
        if after is None:
            return False
        self.states[-1] = after
        if room.cells[after[0]] == "*":
            self.end = WON
        return True

    def _go_in(self):
        level, state = self.levels[-1], self.states[-1]
        number = mouth_here(level.room, state)
        if number == 0:
            return False
        child = level.children[number - 1]
        self.states[-1] = come_back(state, number, None)
        self.levels.append(child)
        self.states.append(first_state(child.room, state[4]))
        return True

    def _go_out(self):
        at, bag = self.states[-1][0], self.states[-1][4]
        if at != self.levels[-1].room.entry:
            return False
        if len(self.states) == 1:
            self.end = ("out", bag)
            return True
        self.levels.pop()
        self.states.pop()
        self.states[-1] = self.states[-1][:4] + (bag,)
        return True
