"""Mixtures of vectors that are at most 0 at every place, or weights by which every vector is more than 0.

One of the two exists for any integer vectors. Both are found by the simplex method: it makes the sum of the times as
great as possible, where the times of the vectors and one slack for each place are from 0 and the mixture is 0 with
them. As every row of the tableau is equal to 0, rows are multiplied and divided by positive integers as is convenient.
"""

from math import gcd, lcm


def balanced(vectors, width):
    """A tuple (times, None) or (None, weights) for a list of vectors with so many integers each.

    Times is a dict from at most width + 1 places in the list to integers from 1, so that the vectors, each as many
    times, are together at most 0 at each place; weights is a tuple of integers from 0, so that each vector is more
    than 0 by them.
    """
    count = len(vectors)
    rows = [[*[vector[k] for vector in vectors], *_unit(k, width)] for k in range(width)]
    gain = [1] * count + [0] * width
    basis = [count + k for k in range(width)]
    while True:
        entering = _first_positive(gain)
        if entering is None:
            return None, tuple([-price for price in gain[count:]])
        leaving = _leaving(rows, basis, entering)
        if leaving is None:
            return _times(rows, basis, entering, count), None
        pivot = rows[leaving]
        gain = _without(gain, pivot, entering)
        rows = [row if k == leaving else _without(row, pivot, entering) for k, row in enumerate(rows)]
        basis[leaving] = entering


def _unit(k, width):
    """The list of so many integers that are 0, but 1 at place k."""
    return [1 if other == k else 0 for other in range(width)]


def _first_positive(gain):
    """The least place with an integer above 0, or None."""
    for place, value in enumerate(gain):
        if value > 0:
            return place
    return None


def _leaving(rows, basis, entering):
    """Of the rows that bound the entering variable the one with the least variable of the basis, or None."""
    # The least place to enter and the least variable to leave: so no basis comes again.
    bounding = [(basis[k], k) for k, row in enumerate(rows) if row[entering] > 0]
    return min(bounding)[1] if bounding else None


def _without(row, pivot, entering):
    """The row, a positive number of times, plus some times the pivot row, so that it is 0 at the entering place."""
    factor = pivot[entering]
    taken = row[entering]
    if taken == 0:
        return row
    new = [factor * value - taken * other for value, other in zip(row, pivot)]
    shared = 0
    for value in new:
        shared = gcd(shared, value)
    return [value // shared for value in new] if shared > 1 else new


def _times(rows, basis, entering, count):
    """The times of the vectors where nothing bounds the entering variable."""
    scale = 1
    for variable, row in zip(basis, rows):
        scale = lcm(scale, row[variable])
    amounts = {entering: scale}
    for variable, row in zip(basis, rows):
        amounts[variable] = -row[entering] * (scale // row[variable])
    times = {place: amounts[place] for place in sorted(amounts) if place < count and amounts[place] > 0}
    shared = 0
    for place in times:
        shared = gcd(shared, times[place])
    return {place: times[place] // shared for place in times}
