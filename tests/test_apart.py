import unittest
from itertools import product
from random import Random

from marktables.apart import apart, check_apart
from marktables.errors import OtherHeads, OtherPlaces, UnknownMeasure
from marktables.groupings import groupings
from marktables.measures import Bags, Cheapest, Counted, Dearest, Holds, Measure, Numbers, Polynomials, Which, Why
from marktables.polynomials import Polynomial
from marktables.queries import Query, isomorphism
from marktables.unions import Union
from marktables.within import equal, within
from told import TELLING, answer_told, moved, pairs, random_pairs, union_of, unions
from values import nested, no_names

BIG = 10 ** 999


def some_cases():
    return [*pairs()[::3], *random_pairs(41, 120, "wxyz", 3)]


def renamed(random, union):
    queries = [query.image(tuple(random.sample(["k", "m", "zz", "x", "y", "abc"], len(query.variables))))
               for query in union.queries]
    random.shuffle(queries)
    return Union(*queries)


def lists_are_the_same(one, other):
    """Whether the queries are the same, each as often, up to the names of variables."""
    left = list(other.queries)
    for query in one.queries:
        found = [k for k, each in enumerate(left) if isomorphism(query, each) is not None]
        if not found:
            return False
        del left[found[0]]
    return not left


def rows_told(query):
    """The rows and the head row for a query."""
    head, atoms = moved(query, range(len(query.variables)))
    return [("r" + letter, *atom) for letter, atom in zip("abcdef", sorted(set(atoms)))], head


def is_apart_told(one, other, side, number, weights):
    query = [one, other][side].queries[number]
    rows, head = rows_told(query)
    marks = {row[0]: weight for row, weight in zip(rows, weights)}
    return answer_told(rows, one, Numbers(), marks, head) != answer_told(rows, other, Numbers(), marks, head)


class Equal(unittest.TestCase):
    def test_as_told(self):
        for one, other in some_cases():
            same = lists_are_the_same(one, other)
            self.assertIs(equal(one, other, Numbers()), same)
            self.assertIs(equal(one, other, Polynomials()), same)
            for measure in TELLING:
                both = within(one, other, measure)[0] == "yes" and within(other, one, measure)[0] == "yes"
                self.assertIs(equal(one, other, measure), both)

    def test_up_to_names_and_order(self):
        random = Random(42)
        for group in unions():
            for union in group:
                for measure in [*TELLING, Numbers()]:
                    self.assertIs(equal(union, renamed(random, union), measure), True)
                    self.assertIs(equal(renamed(random, union), union, measure), True)

    def test_told(self):
        for one, other, labels in [
                ("<- a x", "<- a x\n<- a x", "holds which why bags cheapest dearest"),
                ("<- a x", "<- a x, a x", "holds which why counted"),
                ("<- a x y", "<- a y x", "holds which why bags cheapest dearest counted polynomials numbers"),
                ("<- a x y", "<- a x y, a x z", "holds which"),
                ("<- a x, a y", "<- a x, a x", "holds which dearest cheapest"),
                ("<- a x y", "<- a x y\n<- a x x", "holds which why bags cheapest dearest"),
                ("<- a x y", "<- a x x", ""), ("<- a x", "<- b x", "")]:
            one, other = union_of(one), union_of(other)
            found = [measure.label for measure in [*TELLING, Numbers()] if equal(one, other, measure)]
            self.assertEqual(sorted(found), sorted(labels.split()), (str(one), str(other)))

    def test_unknown_measures(self):
        one = union_of("<- a x")
        for value in [value for value in no_names() if not isinstance(value, Measure)] + [Why, "numbers", [Why()]]:
            with self.assertRaises(UnknownMeasure):
                equal(one, one, value)
        self.assertIs(equal(measure=Numbers(), other=one, one=one), True)


class Apart(unittest.TestCase):
    def test_as_told(self):
        for one, other in some_cases():
            found = apart(one, other)
            if lists_are_the_same(one, other):
                self.assertIsNone(found)
                continue
            self.assertEqual([type(part) for part in found], [int, int, tuple])
            side, number, weights = found
            query = [one, other][side].queries[number]
            self.assertEqual(len(weights), len(set(query.atoms)))
            self.assertTrue(all(type(weight) is int and 0 <= weight <= 1000 for weight in weights))
            self.assertTrue(is_apart_told(one, other, *found))
            self.assertIs(check_apart(one, other, found), True)
            self.assertEqual(apart(one, other), found)

    def test_nothing_tells_equal_unions_apart(self):
        random = Random(43)
        for group in unions():
            for union in group:
                other = renamed(random, union)
                self.assertIsNone(apart(union, other))
                for side, one in enumerate([union, other]):
                    for number, query in enumerate(one.queries):
                        weights = tuple(random.randrange(9) for _ in set(query.atoms))
                        self.assertIs(check_apart(union, other, (side, number, weights)), False)

    def test_the_difference_is_in_great_powers(self):
        # Their polynomials have the same value for many small weights.
        for one, other in [("<- a x", "<- a x, a x"), ("<- a x", "<- a x, a x, a x, a x, a x, a x"),
                           ("<- a x, b x", "<- a x, b x, b x"), ("<- a x, a y", "<- a x, a x"),
                           ("<- a x, a y\n<- a x", "<- a x, a y\n<- a x, a x"),
                           ("<- a x, b x, c x, d x, e x, f x", "<- a x, b x, c x, d x, e x, g x")]:
            one, other = union_of(one), union_of(other)
            for first, second in [(one, other), (other, one)]:
                found = apart(first, second)
                self.assertTrue(is_apart_told(first, second, *found))
                self.assertLessEqual(max(found[2]), 1000)

    def test_a_query_more(self):
        one = union_of("<- a x y, a y z\n<- a x x")
        for extra in ["<- a x x", "<- a x y, a y z", "<- a x y"]:
            other = one | union_of(extra)
            self.assertTrue(is_apart_told(one, other, *apart(one, other)))
            self.assertTrue(is_apart_told(other, one, *apart(other, one)))


class CheckApart(unittest.TestCase):
    def test_as_told(self):
        random = Random(44)
        seen = {True: 0, False: 0}
        for one, other in some_cases():
            for side, number in product([0, 1], range(3)):
                union = [one, other][side]
                if number >= len(union.queries):
                    self.assertIs(check_apart(one, other, (side, number, (0,))), False)
                    continue
                atoms = len(set(union.queries[number].atoms))
                for top in [2, 3, 10]:
                    weights = tuple(random.randrange(top) for _ in range(atoms))
                    told = is_apart_told(one, other, side, number, weights)
                    self.assertIs(check_apart(one, other, (side, number, weights)), told)
                    seen[told] += 1
        self.assertGreater(min(seen.values()), 100)

    def test_integers_of_any_size(self):
        one, other = union_of("<- a x"), union_of("<- a x, a x")
        for weight, told in [(0, False), (1, False), (2, True), (1001, True), (BIG, True)]:
            for side in (0, 1):
                self.assertIs(check_apart(one, other, (side, 0, (weight,))), told)

    def test_values_of_every_kind(self):
        one, other = union_of("<- a x, b x"), union_of("<- a x, b y\n<- a x, b x")
        right = (0, 0, (1, 1))
        self.assertIs(check_apart(one, other, right), True)
        wrong = [
            *no_names(), None, list(right), right[:2], (*right, ()), (0, 0, [1, 1]), (0, 0, (1,)), (0, 0, (1, 1, 1)),
            (0, 0, (1, -1)), (0, 0, (True, 1)), (0, 0, (1, None)), (0, 0, (1, "1")), (True, 0, (1, 1)),
            (False, 0, (1, 1)), (0, False, (1, 1)), (1, True, (1, 1)), (2, 0, (1, 1)), (-1, 0, (1, 1)), (0, 1, (1, 1)),
            (0, -1, (1, 1)), (1, 2, (1, 1)), (None, 0, (1, 1)), (0, None, (1, 1)), (0, 0, None), (0, 0, {}), (0, 0, "ab"),
            ("0", 0, (1, 1)), (0, (0,), (1, 1)), (0, 0, 1), (0, 0, ((1,), (1,))), (BIG, 0, (1, 1)), (0, BIG, (1, 1)),
            nested(50), (0, 0, nested(40)), (Polynomial([]), 0, (1, 1)), (0, 0, (Polynomial([]), 1)), (0, 0, ()),
            {0: 0, 1: 0, 2: (1, 1)}, (0,) * 5000, (0, 0, (1,) * 4000), ((1, 1), 0, 0), (0, 0, (1, [1])),
        ]
        for value in wrong:
            self.assertIs(check_apart(one, other, value), False, value)

    def test_keywords(self):
        one, other = union_of("<- a x"), union_of("<- b x")
        self.assertIs(check_apart(value=apart(other=other, one=one), other=other, one=one), True)


class Errors(unittest.TestCase):
    def test_other_heads_then_other_places(self):
        for one, other, error in [("<- a x y", "x <- a x y", OtherHeads), ("x <- a x", "x y <- a x y", OtherHeads),
                                  ("x <- a x y", "x <- a x", OtherPlaces), ("<- c x", "<- a x\n<- c x y", OtherPlaces)]:
            for first, second in [(one, other), (other, one)]:
                first, second = union_of(first), union_of(second)
                for measure in [*TELLING, Numbers(), None, "why"]:
                    with self.assertRaises(error):
                        equal(first, second, measure)
                with self.assertRaises(error):
                    apart(first, second)
                for value in [None, (0, 0, (1,))]:
                    with self.assertRaises(error):
                        check_apart(first, second, value)


class Examples(unittest.TestCase):
    def test_of_the_document(self):
        query = Query.read("<- a x y")
        one = Union(query)
        other = Union(query, query)
        self.assertEqual(
            [list(groupings(query)), equal(one, other, Bags()), equal(one, other, Numbers()),
             check_apart(one, other, (0, 0, (1,)))],
            [[("x", "x"), ("x", "y")], True, False, True])

    def test_all_measures_are_tried(self):
        kinds = [Holds, Which, Why, Bags, Cheapest, Dearest, Counted, Polynomials]
        self.assertEqual([type(measure) for measure in TELLING], kinds)


if __name__ == "__main__":
    unittest.main()
