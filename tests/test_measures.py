import unittest
from itertools import product
from random import Random
from time import perf_counter

from marktables.errors import InvalidMark, InvalidName
from marktables.measures import (
    Bags, Cheapest, Counted, Dearest, Holds, Measure, Numbers, Polynomials, Which, Why)
from marktables.polynomials import Polynomial
from marktables.queries import Query
from marktables.tables import Tables
from marktables.unions import Union
from measure_marks import CLASSES, LABELS
from values import nested, no_names

WAYS = [(), ("p",), ("q",), ("p", "q"), ("o", "p")]
MONOMIALS = [(), ("p",), ("p", "p"), ("p", "q"), ("o", "p", "p")]


def subsets(members):
    """All ascending tuples of some of the members."""
    found = [()]
    for member in sorted(members):
        found += [(*each, member) for each in found]
    return found


def counted(members, most):
    """All ascending tuples of pairs of one of the members and a count of at most so many."""
    found = [()]
    for member in sorted(members):
        found += [(*each, (member, many)) for each in found for many in range(1, most + 1)]
    return found


def small_marks(kind):
    """A set of marks in which, for marks of it, is also what is added to the one to make the other."""
    if kind is Holds:
        return [False, True]
    if kind is Numbers:
        return [0, 1, 2, 3, 7, 10 ** 40]
    if kind in (Cheapest, Dearest):
        return [None, 0, 1, 2, 7, 10 ** 40]
    if kind is Which:
        return [None, *subsets("opq")]
    if kind in (Why, Bags):
        return subsets((WAYS if kind is Why else MONOMIALS)[:4])
    return counted((WAYS if kind is Counted else MONOMIALS)[:3], 2)


def names_of(*parts):
    return tuple(sorted(set().union(*parts)))


def summed(pairs):
    found = {}
    for key, many in pairs:
        found[key] = found.get(key, 0) + many
    return tuple(sorted(found.items()))


def plus_told(kind, a, b):
    """The row of the table, word by word."""
    if kind is Holds:
        return a is True or b is True
    if kind is Numbers:
        return a + b
    if kind in (Which, Cheapest, Dearest) and None in (a, b):
        return b if a is None else a
    if kind is Cheapest:
        return a if a < b else b
    if kind is Dearest:
        return b if a < b else a
    if kind in (Which, Why, Bags):
        return names_of(a, b)
    return summed([*a, *b])


def times_told(kind, a, b):
    if kind is Holds:
        return a is True and b is True
    if kind is Numbers:
        return a * b
    if kind in (Which, Cheapest, Dearest) and None in (a, b):
        return None
    if kind in (Cheapest, Dearest):
        return a + b
    if kind is Which:
        return names_of(a, b)
    if kind is Why:
        return names_of([names_of(left, right) for left in a for right in b])
    if kind is Bags:
        return names_of([tuple(sorted([*left, *right])) for left in a for right in b])
    if kind is Counted:
        return summed([(names_of(left, right), m * n) for left, m in a for right, n in b])
    return summed([(tuple(sorted([*left, *right])), m * n) for left, m in a for right, n in b])


def random_marks(kind, random, count):
    """Marks with more ways and monomials than the small ones."""
    names = ["p", "q", "r", "ra", "rb", "sum", "abcdefgh"]
    found = []
    while len(found) < count:
        bags = [tuple(sorted(random.choices(names, k=random.randrange(5)))) for _ in range(random.randrange(7))]
        sets = [names_of(bag) for bag in bags]
        number = random.choice([0, 1, 5, random.randrange(100), 10 ** random.randrange(60)])
        found.append({
            "holds": random.random() < 0.5, "which": random.choice([None, names_of(*sets)]), "why": names_of(sets),
            "bags": names_of(bags), "cheapest": random.choice([None, number]),
            "dearest": random.choice([None, number]), "numbers": number,
            "counted": summed([(each, number + 1) for each in sets]),
            "polynomials": summed([(each, number + 1) for each in bags]),
        }[kind().label])
    return found


class Classes(unittest.TestCase):
    def test_labels(self):
        self.assertEqual([kind().label for kind in CLASSES], LABELS)
        for kind in CLASSES:
            self.assertEqual(kind().label, kind.__name__.lower())
            self.assertTrue(issubclass(kind, Measure))

    def test_equal_exactly_if_of_one_class(self):
        for one, other in product(CLASSES, CLASSES):
            self.assertIs(one() == other(), one is other)
            self.assertIs(one() != other(), one is not other)
        others = [value for value in no_names() if not isinstance(value, Measure)]
        for kind in CLASSES:
            self.assertFalse(any(kind() == value or value == kind() for value in [*others, kind, kind().label, kind.zero]))

    def test_each_class_defines_every_method(self):
        for kind in [Measure, *CLASSES]:
            for name in ["label", "zero", "one", "plus", "times", "at_most", "is_mark", "named", "__eq__"]:
                self.assertIn(name, vars(kind))
            if kind is not Measure:
                self.assertIsInstance(vars(kind)["label"], property)

    def test_keywords(self):
        for kind in CLASSES:
            one, zero = kind().one(), kind().zero()
            self.assertEqual(kind().plus(b=zero, a=one), one)
            self.assertEqual(kind().times(b=zero, a=one), zero)
            self.assertIs(kind().at_most(b=one, a=zero), True)
            self.assertIs(kind().at_most(b=zero, a=one), False)
            self.assertIs(kind().is_mark(value=one), True)
            self.assertTrue(kind().is_mark(kind().named(name="r")))


class Table(unittest.TestCase):
    def same(self, one, other):
        self.assertEqual(one, other)
        self.assertIs(type(one), type(other))

    def cases(self):
        random = Random(11)
        for kind in CLASSES:
            marks = small_marks(kind)
            for a, b in product(marks[:40], marks[:40]):
                yield kind, a, b
            marks = random_marks(kind, random, 40)
            for a, b in product(marks, marks):
                yield kind, a, b

    def test_zero_and_one(self):
        zeros = [False, None, (), (), None, None, (), (), 0]
        ones = [True, (), ((),), ((),), 0, 0, (((), 1),), (((), 1),), 1]
        for kind, zero, one in zip(CLASSES, zeros, ones):
            self.same(kind().zero(), zero)
            self.same(kind().one(), one)

    def test_sums_and_products(self):
        for kind, a, b in self.cases():
            self.same(kind().plus(a, b), plus_told(kind, a, b))
            self.same(kind().times(a, b), times_told(kind, a, b))

    def test_results_are_marks(self):
        for kind, a, b in self.cases():
            for value in [kind().plus(a, b), kind().times(a, b), kind().zero(), kind().one(), kind().named("row")]:
                self.assertIs(kind().is_mark(value), True)

    def test_at_most_exactly_if_a_mark_is_missing(self):
        for kind in CLASSES:
            marks = small_marks(kind)
            if kind is Numbers:
                marks = range(8)
            for a in marks:
                sums = [kind().plus(a, more) for more in marks]
                for b in marks:
                    self.assertIs(kind().at_most(a, b), b in sums, (kind, a, b))

    def test_laws(self):
        random = Random(12)
        for kind in CLASSES:
            measure, marks = kind(), random_marks(kind, random, 30)
            for _ in range(150):
                a, b, c = random.choices(marks, k=3)
                self.assertEqual(measure.plus(a, b), measure.plus(b, a))
                self.assertEqual(measure.times(a, b), measure.times(b, a))
                self.assertEqual(measure.plus(a, measure.plus(b, c)), measure.plus(measure.plus(a, b), c))
                self.assertEqual(measure.times(a, measure.times(b, c)), measure.times(measure.times(a, b), c))
                left = measure.times(a, measure.plus(b, c))
                self.assertEqual(left, measure.plus(measure.times(a, b), measure.times(a, c)))
                self.assertEqual(measure.plus(a, measure.zero()), a)
                self.assertEqual(measure.times(a, measure.zero()), measure.zero())
                self.assertEqual(measure.times(a, measure.one()), a)
                self.assertTrue(measure.at_most(a, measure.plus(a, b)))
                self.assertTrue(measure.at_most(measure.zero(), a))

    def test_told_with_none(self):
        for kind, some in [(Which, ("p",)), (Cheapest, 4), (Dearest, 4)]:
            measure = kind()
            self.assertEqual([measure.plus(None, some), measure.plus(some, None), measure.plus(None, None)],
                             [some, some, None])
            self.assertEqual([measure.times(None, some), measure.times(some, None)], [None, None])
            self.assertEqual([measure.at_most(None, some), measure.at_most(some, None), measure.at_most(None, None)],
                             [True, False, True])

    def test_told(self):
        self.assertEqual(Which().plus(("a", "b"), ("b", "c")), ("a", "b", "c"))
        self.assertEqual(Which().times((), ("b",)), ("b",))
        self.assertIs(Which().at_most((), ("b",)), True)
        self.assertIs(Which().at_most(("a", "b"), ("b",)), False)
        self.assertEqual(Why().times((("a",), ("b",)), (("a",), ("b",))), (("a",), ("a", "b"), ("b",)))
        self.assertEqual(Bags().times((("a",), ("b",)), (("a",), ("b",))), (("a", "a"), ("a", "b"), ("b", "b")))
        self.assertEqual(Why().plus(((), ("b",)), (("a",), ("b",))), ((), ("a",), ("b",)))
        self.assertEqual(
            Counted().times(((("a",), 2), (("b",), 3)), ((("a",), 5), (("b",), 7))),
            ((("a",), 10), (("a", "b"), 29), (("b",), 21)))
        self.assertEqual(
            Polynomials().times(((("a",), 2), (("b",), 3)), ((("a",), 5), (("b",), 7))),
            ((("a", "a"), 10), (("a", "b"), 29), (("b", "b"), 21)))
        self.assertEqual(Counted().times(((("a",), 2), (("a", "b"), 1)), ((("b",), 1),)), ((("a", "b"), 3),))
        self.assertEqual(Counted().plus(((("a",), 2),), ((("a",), 3), (("b",), 1))), ((("a",), 5), (("b",), 1)))
        self.assertIs(Counted().at_most(((("a",), 2),), ((("a",), 2), (("b",), 1))), True)
        self.assertIs(Counted().at_most(((("a",), 3),), ((("a",), 2), (("b",), 1))), False)
        self.assertEqual([Cheapest().plus(3, 5), Dearest().plus(3, 5), Cheapest().times(3, 5)], [3, 5, 8])
        self.assertEqual([Cheapest().at_most(5, 3), Cheapest().at_most(3, 5), Cheapest().at_most(3, 3)],
                         [True, False, True])
        self.assertEqual([Dearest().at_most(5, 3), Dearest().at_most(3, 5), Dearest().at_most(3, 3)],
                         [False, True, True])

    def test_named(self):
        told = [True, ("row",), (("row",),), (("row",),), 0, 0, ((("row",), 1),), ((("row",), 1),), 1]
        for kind, mark in zip(CLASSES, told):
            self.same(kind().named("row"), mark)

    def test_great_marks(self):
        random = Random(13)
        names = [one + other for one in "abcdefghij" for other in "abcdefghij"]
        ways = [sorted({tuple(sorted(random.sample(names, 30))) for _ in range(100)}) for _ in range(2)]
        bags = [sorted({tuple(sorted(random.choices(names, k=30))) for _ in range(100)}) for _ in range(2)]
        for kind, choices in [(Why, ways), (Bags, bags), (Counted, ways), (Polynomials, bags)]:
            a, b = [tuple(each) for each in choices]
            if kind in (Counted, Polynomials):
                a, b = [tuple((way, 10 ** 20) for way in each) for each in choices]
            start = perf_counter()
            made = kind().times(a, b)
            self.assertEqual(made, times_told(kind, a, b))
            self.assertIs(kind().at_most(made, kind().plus(made, made)), True)
            self.assertIs(kind().is_mark(made), True)
            self.assertEqual(kind().plus(made, a), plus_told(kind, made, a))
            self.assertLess(perf_counter() - start, 8)


def wrong_marks(kind):
    """Values of every kind that are not marks."""
    ways = [
        ("b", "a"), ("a", "a"), ["a"], ("A",), (1,), (None,), ("",), ("abcdefghi",), ((),), ("a", ("b",)), "a", {"a": 1},
        (True,), ({},), ([],),
    ]
    tables = [
        None, ("a",), [("a",)], (["a"],), ((), ()), (("b",), ("a",)), (("a",), ("a",)), (("a",), None), ("", ()),
        (((), 1),), (("b", "a"),), (("a",), "b"), ("ab", "c"), (1,), ((1,),), ((None,),), (("a", 1),), {("a",): 1},
        (("A",),), ((), {}), (([],),), (("a",), [("b",)]), True, 0,
    ]
    pairs = [
        None, ((),), (("a",),), (((), 0),), (((), -1),), (((), True),), (((), False),), (((), None),), (((), "1"),),
        (((), 1, 1),), (((),),), ([(), 1],), [((), 1)], (([], 1),), ((("a",), 1), ((), 1)), (((), 1), ((), 1)),
        (((), 1), ((), 2)), ((("b", "a"), 1),), ((1, ()),), ("ab",), (("a", 1),), ((("A",), 1),), ((("a",), (1,)),),
        ((("a",), 1), None), ((("a",), 1), (("b",), 0)), {("a",): 1}, 1, True, ((((),), 1),), (((None,), 1),),
    ]
    numbers = [True, False, -1, -10 ** 999, "1", "", (), (1,), [1], {}, ((), 1)]
    return {
        Holds: [None, 0, 1, -1, "True", "", (), (True,), [True], {}],
        Which: [*ways, True, False, 0, 1],
        Why: [*tables, (("a", "a"),)],
        Bags: tables,
        Cheapest: numbers,
        Dearest: numbers,
        Counted: [*pairs, ((("a", "a"), 1),)],
        Polynomials: pairs,
        Numbers: [None, *numbers],
    }[kind]


class WrongMarks(unittest.TestCase):
    def values(self, kind):
        objects = [value for value in no_names() if not isinstance(value, (int, tuple, type(None)))]
        parts = [Query((), [("a", ("x",))]), Polynomial([]), Tables([]), Union(Query((), [("a", ("x",))])), Why()]
        within = [make(part) for part in parts for make in (lambda x: (x,), lambda x: ((x,),), lambda x: ((x, 1),))]
        return [*wrong_marks(kind), *objects, *parts, *within, nested(50), [nested(49)], ("a",) * 4000, (("a",),) * 2000]

    def test_is_mark(self):
        for kind in CLASSES:
            for value in self.values(kind):
                self.assertIs(kind().is_mark(value), False, (kind, value))
            for value in small_marks(kind):
                self.assertIs(kind().is_mark(value), True)

    def test_marks_of_other_measures(self):
        told = [
            (True, [Holds]), (("p",), [Which]), ((("p", "q"),), [Why, Bags]), ((("p", "p"),), [Bags]),
            (3, [Cheapest, Dearest, Numbers]), (None, [Which, Cheapest, Dearest]), (((("p",), 1),), [Counted, Polynomials]),
            (((("p", "p"), 1),), [Polynomials]), ((), [Which, Why, Bags, Counted, Polynomials]), (((),), [Why, Bags]),
            ((((), 1),), [Counted, Polynomials]), (0, [Cheapest, Dearest, Numbers]),
        ]
        for mark, kinds in told:
            self.assertEqual([kind for kind in CLASSES if kind().is_mark(mark)], kinds)

    def test_the_first_wrong_argument(self):
        for kind in CLASSES:
            measure, right = kind(), small_marks(kind)[-1]
            for value in self.values(kind):
                for call in (measure.plus, measure.times, measure.at_most):
                    for pair in [(value, right), (right, value), (value, value), (value, measure.zero()),
                                 (measure.zero(), value), (value, measure.one()), (measure.one(), value)]:
                        with self.assertRaises(InvalidMark) as caught:
                            call(*pair)
                        self.assertIs(caught.exception.value, value)

    def test_the_first_of_two(self):
        for kind in CLASSES:
            for call in (kind().plus, kind().times, kind().at_most):
                for first, second in [("one", "other"), ([], ["x"]), ("", {})]:
                    with self.assertRaises(InvalidMark) as caught:
                        call(first, second)
                    self.assertIs(caught.exception.value, first)

    def test_named_looks_at_its_argument(self):
        for kind in CLASSES:
            for value in no_names():
                with self.assertRaises(InvalidName):
                    kind().named(value)
            for name in ["a", "abcdefgh", "zz"]:
                self.assertTrue(kind().is_mark(kind().named(name)))


class Examples(unittest.TestCase):
    def test_of_the_document(self):
        self.assertEqual(
            [Why().times((("r",),), (("r",), ("s",))), Polynomials().plus((((), 1),), ((("r",), 2),)),
             Cheapest().at_most(5, 3)],
            [(("r",), ("r", "s")), (((), 1), (("r",), 2)), True])


if __name__ == "__main__":
    unittest.main()
