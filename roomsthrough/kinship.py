"""Which numbers of a reach no context can part, and with how few tuples a context parts the other ones."""

from roomsthrough.wishes import is_met


class Kinship:
    """The kin of what a grammar reaches.

    good is the list of the numbers of the start that meet the wish. rounds has, for 0, 1, 2, .. tuples, the list of the
    labels of all numbers: those of one name have the same label if no context with at most so many tuples parts
    them. labels is the last one of these lists.
    """

    def __init__(self, reach, rules, wish):
        self.reach = reach
        self.good = [k for k in reach.of_name[reach.grammar.start] if is_met(rules, reach.shapes[k], wish)]
        self._uses = [[] for _ in reach.shapes]
        self._ways = [[] for _ in reach.shapes]
        for (index, children), number in reach.behind.items():
            self._ways[number].append((index, children))
            for place, child in enumerate(children):
                self._uses[child].append((index, place, children))
        labels = [0] * len(reach.shapes)
        for label, numbers in enumerate(reach.of_name.values()):
            for number in numbers:
                labels[number] = label
        self._many = len(reach.of_name)
        told = {number: True for number in self.good}
        self.labels, fresh = self._split(labels, told)
        self.rounds = [self.labels]
        while fresh:
            self.labels, fresh = self._split(self.labels, self._told(fresh))
            self.rounds.append(self.labels)

    def parting(self, one, other):
        """A context with as few tuples as possible that parts two numbers of one name, None if they are kin."""
        if self.labels[one] == self.labels[other]:
            return None
        many = 0
        while self.rounds[many][one] == self.rounds[many][other]:
            many += 1
        steps = []
        for left in range(many - 1, -1, -1):
            index, place, children = self._step(self.rounds[left], one, other)
            steps.append((index, place, tuple([self.reach.trees[child] for child in _others(children, place)])))
            one, other = self._behind(index, place, children, one), self._behind(index, place, children, other)
        return steps

    def _step(self, labels, one, other):
        """A use of one number behind which there is another label than with the other number, None if there is none."""
        for index, place, children in self._uses[one]:
            behind = self._behind(index, place, children, other)
            if labels[self.reach.behind[(index, children)]] != labels[behind]:
                return (index, place, children)
        return None

    def _behind(self, index, place, children, number):
        """What a production makes with a number at a place, beside the other children."""
        return self.reach.behind[(index, (*children[:place], number, *children[place + 1:]))]

    def _told(self, fresh):
        """For each number that leads to fresh ones at once: in which way, and to which labels."""
        told = {}
        for number in fresh:
            for index, children in self._ways[number]:
                for place, child in enumerate(children):
                    way = (index, place, _others(children, place), self.labels[number])
                    told.setdefault(child, []).append(way)
        return {number: tuple(sorted(told[number])) for number in told}

    def _split(self, labels, told):
        """The labels behind a round, in which numbers of which other things are told get other labels.

        Also the list of the numbers with fresh labels. The most ones keep theirs: so few numbers are fresh often.
        """
        touched = {labels[number]: {} for number in told}
        for number, label in enumerate(labels):
            if label in touched:
                touched[label].setdefault(told.get(number), []).append(number)
        after = list(labels)
        fresh = []
        for parts in touched.values():
            for part in sorted(list(parts.values()), key=len)[:-1]:
                for number in part:
                    after[number] = self._many
                self._many += 1
                fresh.extend(part)
        return (after, fresh)


def _others(children, place):
    """The children at the other places."""
    return children[:place] + children[place + 1:]
