"""Measures: what marks are, how they are added and multiplied, and when one is at most another one."""

from marktables.errors import UnknownMeasure
from marktables.marks import (
    are_counted_monomials, are_counted_ways, are_monomials, are_ways, check_both, check_name, gathered, has_all,
    has_counts, is_number, is_way, joined, united)


class Measure:
    """Base class of the nine measures; each of them defines all of these methods."""

    @property
    def label(self):
        """The name of the class in lowercase letters."""
        raise NotImplementedError("only a subclass has a label")

    def zero(self):
        """The sum of no marks."""
        raise NotImplementedError("only a subclass has marks")

    def one(self):
        """The product of no marks."""
        raise NotImplementedError("only a subclass has marks")

    def plus(self, a, b):
        """The sum of two marks, of several ways to one answer."""
        raise NotImplementedError("only a subclass has marks")

    def times(self, a, b):
        """The product of two marks, of rows that are used together."""
        raise NotImplementedError("only a subclass has marks")

    def at_most(self, a, b):
        """Whether the mark a is at most the mark b: whether some mark added to a gives b."""
        raise NotImplementedError("only a subclass has marks")

    def is_mark(self, value):
        """Whether the value, which may be any value, is a mark."""
        raise NotImplementedError("only a subclass has marks")

    def named(self, name):
        """The mark of a row that has a name of its own."""
        raise NotImplementedError("only a subclass has marks")

    def __eq__(self, other):
        return isinstance(other, Measure) and self.label == other.label


class Holds(Measure):
    """A mark is a boolean: whether the row is there."""

    @property
    def label(self):
        return "holds"

    def zero(self):
        return False

    def one(self):
        return True

    def plus(self, a, b):
        check_both(self, a, b)
        return a or b

    def times(self, a, b):
        check_both(self, a, b)
        return a and b

    def at_most(self, a, b):
        check_both(self, a, b)
        return b or not a

    def is_mark(self, value):
        return isinstance(value, bool)

    def named(self, name):
        check_name(name)
        return True

    def __eq__(self, other):
        return isinstance(other, Holds)


class Which(Measure):
    """A mark is None or a way: all rows that are used by some way."""

    @property
    def label(self):
        return "which"

    def zero(self):
        return None

    def one(self):
        return ()

    def plus(self, a, b):
        check_both(self, a, b)
        if a is None or b is None:
            return b if a is None else a
        return united(a, b)

    def times(self, a, b):
        check_both(self, a, b)
        return None if a is None or b is None else united(a, b)

    def at_most(self, a, b):
        check_both(self, a, b)
        return a is None or (b is not None and has_all(b, a))

    def is_mark(self, value):
        return value is None or is_way(value)

    def named(self, name):
        check_name(name)
        return (name,)

    def __eq__(self, other):
        return isinstance(other, Which)


class Why(Measure):
    """A mark is an ascending tuple of different ways."""

    @property
    def label(self):
        return "why"

    def zero(self):
        return ()

    def one(self):
        return ((),)

    def plus(self, a, b):
        check_both(self, a, b)
        return united(a, b)

    def times(self, a, b):
        check_both(self, a, b)
        return tuple(sorted({united(left, right) for left in a for right in b}))

    def at_most(self, a, b):
        check_both(self, a, b)
        return has_all(b, a)

    def is_mark(self, value):
        return are_ways(value)

    def named(self, name):
        check_name(name)
        return ((name,),)

    def __eq__(self, other):
        return isinstance(other, Why)


class Bags(Measure):
    """A mark is an ascending tuple of different monomials."""

    @property
    def label(self):
        return "bags"

    def zero(self):
        return ()

    def one(self):
        return ((),)

    def plus(self, a, b):
        check_both(self, a, b)
        return united(a, b)

    def times(self, a, b):
        check_both(self, a, b)
        return tuple(sorted({joined(left, right) for left in a for right in b}))

    def at_most(self, a, b):
        check_both(self, a, b)
        return has_all(b, a)

    def is_mark(self, value):
        return are_monomials(value)

    def named(self, name):
        check_name(name)
        return ((name,),)

    def __eq__(self, other):
        return isinstance(other, Bags)


class Cheapest(Measure):
    """A mark is None or an integer from 0: the least cost."""

    @property
    def label(self):
        return "cheapest"

    def zero(self):
        return None

    def one(self):
        return 0

    def plus(self, a, b):
        check_both(self, a, b)
        if a is None or b is None:
            return b if a is None else a
        return min(a, b)

    def times(self, a, b):
        check_both(self, a, b)
        return None if a is None or b is None else a + b

    def at_most(self, a, b):
        check_both(self, a, b)
        return a is None or (b is not None and b <= a)

    def is_mark(self, value):
        return value is None or is_number(value)

    def named(self, name):
        check_name(name)
        return 0

    def __eq__(self, other):
        return isinstance(other, Cheapest)


class Dearest(Measure):
    """A mark is None or an integer from 0: the greatest cost."""

    @property
    def label(self):
        return "dearest"

    def zero(self):
        return None

    def one(self):
        return 0

    def plus(self, a, b):
        check_both(self, a, b)
        if a is None or b is None:
            return b if a is None else a
        return max(a, b)

    def times(self, a, b):
        check_both(self, a, b)
        return None if a is None or b is None else a + b

    def at_most(self, a, b):
        check_both(self, a, b)
        return a is None or (b is not None and a <= b)

    def is_mark(self, value):
        return value is None or is_number(value)

    def named(self, name):
        check_name(name)
        return 0

    def __eq__(self, other):
        return isinstance(other, Dearest)


class Counted(Measure):
    """A mark is an ascending tuple of pairs of a way and its count."""

    @property
    def label(self):
        return "counted"

    def zero(self):
        return ()

    def one(self):
        return (((), 1),)

    def plus(self, a, b):
        check_both(self, a, b)
        return gathered(a + b)

    def times(self, a, b):
        check_both(self, a, b)
        return gathered([(united(left, right), m * n) for left, m in a for right, n in b])

    def at_most(self, a, b):
        check_both(self, a, b)
        return has_counts(b, a)

    def is_mark(self, value):
        return are_counted_ways(value)

    def named(self, name):
        check_name(name)
        return (((name,), 1),)

    def __eq__(self, other):
        return isinstance(other, Counted)


class Polynomials(Measure):
    """A mark is an ascending tuple of pairs of a monomial and its count."""

    @property
    def label(self):
        return "polynomials"

    def zero(self):
        return ()

    def one(self):
        return (((), 1),)

    def plus(self, a, b):
        check_both(self, a, b)
        return gathered(a + b)

    def times(self, a, b):
        check_both(self, a, b)
        return gathered([(joined(left, right), m * n) for left, m in a for right, n in b])

    def at_most(self, a, b):
        check_both(self, a, b)
        return has_counts(b, a)

    def is_mark(self, value):
        return are_counted_monomials(value)

    def named(self, name):
        check_name(name)
        return (((name,), 1),)

    def __eq__(self, other):
        return isinstance(other, Polynomials)


class Numbers(Measure):
    """A mark is an integer from 0."""

    @property
    def label(self):
        return "numbers"

    def zero(self):
        return 0

    def one(self):
        return 1

    def plus(self, a, b):
        check_both(self, a, b)
        return a + b

    def times(self, a, b):
        check_both(self, a, b)
        return a * b

    def at_most(self, a, b):
        check_both(self, a, b)
        return a <= b

    def is_mark(self, value):
        return is_number(value)

    def named(self, name):
        check_name(name)
        return 1

    def __eq__(self, other):
        return isinstance(other, Numbers)


def check_measure(measure):
    """Raises UnknownMeasure if the value, which may be any value, is no measure."""
    if not isinstance(measure, Measure):
        raise UnknownMeasure("not a measure")


def check_telling(measure):
    """Raises UnknownMeasure if the value, which may be any value, is no measure or Numbers()."""
    if not isinstance(measure, Measure) or isinstance(measure, Numbers):
        raise UnknownMeasure("not a measure other than numbers")
