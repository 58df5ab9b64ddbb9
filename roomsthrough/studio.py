"""A grammar that is worked at."""

from roomsthrough.errors import BadIndex, NothingDone
from roomsthrough.grammars import Grammar, need_grammar
from roomsthrough.plain import is_whole
from roomsthrough.rules import need_rules
from roomsthrough.verdicts import every, is_verdict_paper, some, verdict_paper


class Studio:
    """A grammar and rules, changed by deeds that can be taken back."""

    def __init__(self, grammar, rules):
        need_grammar(grammar)
        need_rules(rules)
        self.grammar = grammar
        self.rules = rules
        # What stood ahead of each deed that is not taken back, as tuples (grammar, rules).
        self._past = []

    def put(self, at, production):
        """Put a production ahead of the one with an index, or at the end."""
        rows = self.grammar.rows
        if not is_whole(at) or not 0 <= at <= len(rows):
            raise BadIndex(at)
        self._set(Grammar((*rows[:at], production, *rows[at:]), self.grammar.start), self.rules)

    def drop(self, at):
        """Take the production with an index away."""
        rows = self.grammar.rows
        if not is_whole(at) or not 0 <= at < len(rows):
            raise BadIndex(at)
        self._set(Grammar(rows[:at] + rows[at + 1:], self.grammar.start), self.rules)

    def rules_are(self, rules):
        """Take other rules."""
        need_rules(rules)
        self._set(self.grammar, rules)

    def begin_at(self, start):
        """Take another start."""
        self._set(Grammar(self.grammar.rows, start), self.rules)

    def undo(self):
        """Take back the last deed that is not taken back yet."""
        if len(self._past) == 0:
            raise NothingDone()
        self.grammar, self.rules = self._past.pop()

    def every(self, wish):
        """None if each level that is made fulfils the wish, otherwise the least derivation that does not."""
        return every(self.grammar, self.rules, wish)

    def some(self, wish):
        """None if no level that is made fulfils the wish, otherwise the least derivation that does."""
        return some(self.grammar, self.rules, wish)

    def paper(self, wish):
        """The paper which shows that each level that is made fulfils the wish."""
        return verdict_paper(self.grammar, self.rules, wish)

    def still(self, paper, wish):
        """Tell whether a thing is such a paper of what stands."""
        return is_verdict_paper(self.grammar, self.rules, wish, paper)

    def _set(self, grammar, rules):
        """Let a deed be done, with what stands behind it."""
        self._past.append((self.grammar, self.rules))
        self.grammar = grammar
        self.rules = rules
