"""Books of rules."""

from roomsthrough.errors import BadRules
from roomsthrough.plain import is_whole


class Rules:
    """How many keys of one colour can be carried, and whether crates can be pushed in twos and be pulled."""

    def __init__(self, cap=1, strong=False, pull=False):
        if not is_whole(cap) or not 1 <= cap <= 2:
            raise BadRules(cap)
        if not isinstance(strong, bool):
            raise BadRules(strong)
        if not isinstance(pull, bool):
            raise BadRules(pull)
        self.cap = cap
        self.strong = strong
        self.pull = pull

    def __eq__(self, other):
        if not isinstance(other, Rules):
            return False
        return self.cap == other.cap and self.strong == other.strong and self.pull == other.pull

    def bags(self):
        """The ascending list of all bags."""
        counts = range(self.cap + 1)
        return [(of_a, of_b) for of_a in counts for of_b in counts]


def need_rules(rules):
    """Raise BadRules(rules) for what is not a book of rules."""
    if not isinstance(rules, Rules):
        raise BadRules(rules)
