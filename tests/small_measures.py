"""Small measures for the tests: the methods that answers and the call of a polynomial need."""

from itertools import product

from marktables.names import is_name


class Small:
    """A measure that refuses what is no mark, and counts how often it is asked to add or multiply."""

    def __init__(self):
        self.asked = 0

    def check(self, *values):
        self.asked += 1
        for value in values:
            if not self.is_mark(value):
                raise AssertionError(f"not a mark: {value!r}")

    def plus(self, a, b):
        self.check(a, b)
        return self.sum_of(a, b)

    def times(self, a, b):
        self.check(a, b)
        return self.product_of(a, b)


class SmallNumbers(Small):
    def zero(self):
        return 0

    def one(self):
        return 1

    def is_mark(self, value):
        return isinstance(value, int) and not isinstance(value, bool) and value >= 0

    def sum_of(self, a, b):
        return a + b

    def product_of(self, a, b):
        return a * b


class SmallHolds(Small):
    def zero(self):
        return False

    def one(self):
        return True

    def is_mark(self, value):
        return isinstance(value, bool)

    def sum_of(self, a, b):
        return a or b

    def product_of(self, a, b):
        return a and b


class SmallCheapest(Small):
    def zero(self):
        return None

    def one(self):
        return 0

    def is_mark(self, value):
        return value is None or SmallNumbers.is_mark(self, value)

    def sum_of(self, a, b):
        return b if a is None else a if b is None else min(a, b)

    def product_of(self, a, b):
        return None if a is None or b is None else a + b


class SmallWhich(Small):
    def zero(self):
        return None

    def one(self):
        return ()

    def is_mark(self, value):
        return value is None or is_way(value)

    def sum_of(self, a, b):
        return b if a is None else a if b is None else tuple(sorted({*a, *b}))

    def product_of(self, a, b):
        return None if a is None or b is None else tuple(sorted({*a, *b}))


class SmallWhy(Small):
    def zero(self):
        return ()

    def one(self):
        return ((),)

    def is_mark(self, value):
        return isinstance(value, tuple) and all(is_way(way) for way in value) and ascends(value)

    def sum_of(self, a, b):
        return tuple(sorted({*a, *b}))

    def product_of(self, a, b):
        return tuple(sorted({tuple(sorted({*one, *other})) for one in a for other in b}))


class SmallPolynomials(Small):
    def zero(self):
        return ()

    def one(self):
        return (((), 1),)

    def is_mark(self, value):
        if not isinstance(value, tuple) or not all(isinstance(pair, tuple) and len(pair) == 2 for pair in value):
            return False
        if not all(isinstance(count, int) and not isinstance(count, bool) and count >= 1 for _, count in value):
            return False
        return all(is_bag(bag) for bag, _ in value) and ascends([bag for bag, _ in value])

    def sum_of(self, a, b):
        return gathered([*a, *b])

    def product_of(self, a, b):
        return gathered([(tuple(sorted(one + other)), c * d) for (one, c), (other, d) in product(a, b)])


def gathered(pairs):
    found = {}
    for bag, count in pairs:
        found[bag] = found.get(bag, 0) + count
    return tuple(sorted(found.items()))


def is_bag(value):
    return isinstance(value, tuple) and all(is_name(name) for name in value) and list(value) == sorted(value)


def is_way(value):
    return is_bag(value) and ascends(value)


def ascends(values):
    return all(one < other for one, other in zip(values, values[1:]))


# For each measure some marks: plain ones, a zero, and some with two ways or monomials.
MARKS = [
    (SmallNumbers, [0, 1, 2, 5, 10 ** 30]),
    (SmallHolds, [True, False]),
    (SmallCheapest, [None, 0, 1, 7]),
    (SmallWhich, [None, (), ("p",), ("o", "q")]),
    (SmallWhy, [(), ((),), (("p",),), (("o", "q"), ("p",))]),
    (SmallPolynomials, [(), (((), 1),), ((("p",), 1),), ((("o", "o"), 2), (("p",), 1))]),
]
