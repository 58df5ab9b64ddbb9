"""Least sums over very many equal rounds. Costs are numbers, or None where there is no way."""


def least_behind(matrix, first, rounds):
    """The list of the least costs behind so many rounds, each of which adds the costs of the matrix."""
    now = first
    power = matrix
    left = rounds
    while left > 0:
        if left & 1:
            now = [_least_sum(row, now) for row in power]
        left >>= 1
        if left > 0:
            power = _squared(power)
    return now


def _squared(matrix):
    """The matrix of two rounds."""
    columns = [[row[at] for row in matrix] for at in range(len(matrix))]
    return [[_least_sum(row, column) for column in columns] for row in matrix]


def _least_sum(one, other):
    """The least sum of two costs at the same place, None if there is no place at which both are."""
    sums = [cost + more for cost, more in zip(one, other) if cost is not None and more is not None]
    return min(sums, default=None)
