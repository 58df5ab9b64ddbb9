"""How many derivations there are with so many rooms, and which one has a number in their order.

What is counted has labels: names, or classes of what is reached. The ways are a dict from tuples (index of a
production, labels of its children) to the label of what it makes of them.
"""


class Counting:
    """The numbers of derivations with 0, 1, .., most rooms, for each label.

    Where a production has two children, the second ones that lead to the same label are counted together.
    """

    def __init__(self, ways, most):
        self._ways = {}
        self._of_label = {}
        self._of_index = {}
        self._seconds = {}
        for (index, children), label in ways.items():
            self._ways.setdefault(index, []).append((children, label))
            self._of_index[(index, label)] = [0] * (most + 1)
            for told in (*children, label):
                self._of_label[told] = [0] * (most + 1)
            if len(children) == 2:
                self._seconds.setdefault((index, children[0], label), []).append(children[1])
        self._sums = {key: [0] * (most + 1) for key in self._seconds}
        for rooms in range(1, most + 1):
            self._count(rooms)

    def total(self, labels, rooms):
        """How many derivations with so many rooms have one of some labels, each of which is named once."""
        return sum([self._of_label[label][rooms] for label in labels if label in self._of_label])

    def pick(self, wanted, number):
        """The derivation with a number, where each one is counted as often as it is wanted, in their order.

        wanted is a dict from labels to lists that tell for each number of rooms how often. What is returned is a tuple
        (derivation, its label, its rooms, the number among its own times).
        """
        left = number
        for index in sorted(list(self._ways)):
            total = 0
            for label in wanted:
                if (index, label) in self._of_index:
                    total += _product(self._of_index[(index, label)], wanted[label])
            if left < total:
                return self._pick_with(index, wanted, left)
            left -= total
        return None

    def _count(self, rooms):
        """Count the derivations with so many rooms, where all with fewer ones are counted."""
        for index, ways in self._ways.items():
            for children, label in ways:
                if len(children) == 0 and rooms == 1:
                    self._of_index[(index, label)][rooms] += 1
                elif len(children) == 1:
                    self._of_index[(index, label)][rooms] += self._of_label[children[0]][rooms - 1]
        for (index, first, label), sums in self._sums.items():
            self._of_index[(index, label)][rooms] += _product(self._of_label[first][:rooms], sums[:rooms][::-1])
        for (_, label), counts in self._of_index.items():
            self._of_label[label][rooms] += counts[rooms]
        for key, seconds in self._seconds.items():
            self._sums[key][rooms] = self.total(seconds, rooms)

    def _pick_with(self, index, wanted, number):
        """What pick returns, where the derivation begins with an index."""
        children, label = self._ways[index][0]
        if len(children) == 0:
            return ((index, ()), label, 1, number)
        if len(children) == 1:
            inner = self._wanted_of_last(index, wanted, (), 1)
            made, child, rooms, left = self.pick(inner, number)
            return ((index, (made,)), self._label(index, (child,)), rooms + 1, left)
        one, first, rooms, left = self.pick(self._wanted_of_first(index, wanted), number)
        inner = self._wanted_of_last(index, wanted, (first,), rooms + 1)
        other, second, more, left = self.pick(inner, left)
        return ((index, (one, other)), self._label(index, (first, second)), rooms + more + 1, left)

    def _label(self, index, children):
        for told, label in self._ways[index]:
            if told == children:
                return label
        return None

    def _wanted_of_first(self, index, wanted):
        """How often the first of two children is wanted: with each second one, as often as the whole is."""
        found = {}
        for (at, first, label), sums in self._sums.items():
            if at == index and label in wanted:
                times = found.setdefault(first, [0] * len(sums))
                for rooms in range(len(sums)):
                    times[rooms] += _product(sums, wanted[label][rooms + 1:])
        return found

    def _wanted_of_last(self, index, wanted, ahead, rooms):
        """How often the last child is wanted, behind children ahead, beside so many rooms: as often as the whole is."""
        found = {}
        for children, label in self._ways[index]:
            if children[:-1] == ahead and label in wanted:
                found[children[-1]] = wanted[label][rooms:]
        return found


def _product(one, other):
    """The sum of the products of the numbers at the same places of two lists, of which one can be longer."""
    return sum([number * times for number, times in zip(one, other)])
