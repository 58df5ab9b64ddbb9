"""A play at work."""

from roomsthrough.bags import need_bag
from roomsthrough.errors import BadPlay, NothingDone
from roomsthrough.guiding import Guide
from roomsthrough.levels import need_level
from roomsthrough.rules import need_rules
from roomsthrough.walking import WON, Walker


class Play:
    """A play of a level that goes on, and back."""

    def __init__(self, level, rules, bag=(0, 0)):
        need_level(level)
        need_rules(rules)
        need_bag(rules, bag)
        self.letters = ""
        self._level = level
        self._rules = rules
        self._walker = Walker(level, rules, bag)
        # What stood ahead of each go that is not taken back, as tuples (letters, walker).
        self._past = []
        self._guide = None

    def go(self, letters):
        """Do the letters of a string behind what was played, or nothing of it."""
        if not isinstance(letters, str):
            raise BadPlay(-1)
        walker = self._walker.copied()
        done = walker.walk_on(letters)
        if done < len(letters):
            raise BadPlay(done)
        self._past.append((self.letters, self._walker))
        self.letters += letters
        self._walker = walker

    def undo(self):
        """Take back the last go that is not taken back yet."""
        if len(self._past) == 0:
            raise NothingDone()
        self.letters, self._walker = self._past.pop()

    def where(self):
        """The position, or how the play has ended."""
        return self._walker.place()

    def spoilt(self):
        """Tell whether the play cannot end with the star any more."""
        return self.left() is None

    def left(self):
        """The least number of letters to the star, None if the play is spoilt."""
        if self._walker.end is not None:
            return 0 if self._walker.end == WON else None
        return self._guided().left(self._walker.place())

    def hint(self):
        """The first letter of some least way to the star, None if there is none or the play has ended."""
        if self._walker.end is not None:
            return None
        return self._guided().letter(self._walker.place())

    def trial(self, deed):
        """What a function returns that is called with the play; behind it the play is as it was."""
        letters = self.letters
        walker = self._walker
        past = list(self._past)
        try:
            return deed(self)
        finally:
            self.letters, self._walker, self._past = letters, walker, past

    def _guided(self):
        # A guide searches all rooms, so it is made when it is asked for.
        if self._guide is None:
            self._guide = Guide(self._level, self._rules)
        return self._guide
