"""Sums of products of marks, worked out by the methods of a measure."""

from marktables.errors import InvalidMarks


def check_marks(names, measure, marks):
    """Raises InvalidMarks if marks is not a dict with a mark of the measure for each of the ascending names."""
    if not isinstance(marks, dict):
        raise InvalidMarks(None)
    for name in names:
        # None may be a mark, so a missing name is not looked up.
        if name not in marks or not measure.is_mark(marks[name]):
            raise InvalidMarks(name)


def evaluated(parts, measure, marks):
    """For each part the sum of the products of its terms, each as many times as its count says.

    A part is a list or tuple of terms (monomial, count), with counts from 1; marks are as check_marks wants them.
    """
    products = _products(parts, measure, marks)
    doubles = _doubles(parts, measure)
    sums = []
    for part in parts:
        summands = [_repeated(measure, doubles, products[monomial], count) for monomial, count in part]
        sums.append(_total(measure, summands))
    return sums


def _products(parts, measure, marks):
    """A dict from all monomials of the parts to the products of the marks of their names."""
    found = {}
    path = [measure.one()]
    previous = ()
    # In ascending order, so that a product goes on from what the last one has in common with it.
    for monomial in sorted({monomial for part in parts for monomial, _ in part}):
        shared = _common_length(previous, monomial)
        del path[shared + 1:]
        for name in monomial[shared:]:
            path.append(measure.times(path[-1], marks[name]))
        found[monomial] = path[-1]
        previous = monomial
    return found


def _common_length(one, other):
    """How many entries at the beginning of the two tuples are the same."""
    length = 0
    for left, right in zip(one, other):
        if left != right:
            return length
        length += 1
    return length


def _doubles(parts, measure):
    """The list of one(), its double, the double of this, and so on, as far as the counts need it."""
    doubles = [measure.one()]
    bits = max([count.bit_length() for part in parts for _, count in part], default=0)
    while len(doubles) < bits:
        doubles.append(measure.plus(doubles[-1], doubles[-1]))
    return doubles


def _repeated(measure, doubles, mark, count):
    """The sum of so many times the mark: the mark multiplied by the sum of so many times one()."""
    if count == 1:
        return mark
    ones = [double for k, double in enumerate(doubles) if ((count >> k) & 1) == 1]
    return measure.times(_total(measure, ones), mark)


def _total(measure, marks):
    """The sum of the marks, added in pairs: great partial sums are looked at only a few times."""
    if not marks:
        return measure.zero()
    left = marks
    while len(left) > 1:
        pairs = [measure.plus(left[k], left[k + 1]) for k in range(0, len(left) - 1, 2)]
        left = [*pairs, *left[2 * len(pairs):]]
    return left[0]
