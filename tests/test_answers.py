import unittest
from itertools import product
from random import Random

from marktables.errors import InvalidMarks
from marktables.measures import (
    Bags, Cheapest, Counted, Dearest, Holds, Numbers, Polynomials, Which, Why)
from marktables.polynomials import Polynomial
from marktables.queries import Query
from marktables.tables import Tables, answers, polynomial_answers, ways
from marktables.unions import Union
from measure_marks import MARKS
from small_measures import SmallNumbers
from values import no_names

TABLES = Tables([("r", "edge", (1, 2)), ("s", "edge", (2, 2)), ("t", "edge", (3, 2))])
UNION = Union.read("x <- edge x y, edge y z")
UNIONS = [
    "<- a x y", "x <- a x y, a y z", "x z <- a x y, a y z\nz x <- a x y, a y z", "x x <- a x x",
    "x <- a x y, a x y\nx <- a x y, a x y", "x <- a x y\nx <- b x", "x <- a x y\ny <- a x y\ny <- a y y, b y",
    "x <- b x, b y\nx <- c x", "x y z <- a x y, a y z, b z", "<- a x y, a x y, a x y\n<- b x, b x\n<- b x, b y",
    "<- d x",
]


def databases():
    random = Random(8)
    made = [Tables([]), TABLES]
    while len(made) < 14:
        facts = {}
        for name in "uvwrst"[:random.randrange(2, 7)]:
            table, count = random.choice([("a", 2), ("a", 2), ("b", 1), ("c", 1)])
            facts[(table, tuple(random.randrange(-1, 2) for _ in range(count)))] = name
        made.append(Tables([(name, table, values) for (table, values), name in facts.items()]))
    return made


def head_of(query, way):
    return tuple(way[query.variables.index(name)] for name in query.head)


def used_rows(tables, query, way):
    """The names of the used rows, one for each atom."""
    found = []
    for table, names in query.atoms:
        values = tuple(way[query.variables.index(name)] for name in names)
        found.extend(row[0] for row in tables.rows if row[1:] == (table, values))
    return found


def answers_told(tables, union, measure, marks):
    """The answers, way by way."""
    found = {}
    for query in union.queries:
        for way in ways(tables, query):
            mark = measure.one()
            for name in used_rows(tables, query, way):
                mark = measure.times(mark, marks[name])
            head = head_of(query, way)
            found[head] = measure.plus(found.get(head, measure.zero()), mark)
    return found


def same(self, one, other):
    """Dicts with the same keys in the same order, and equal values, none of them a boolean for an integer."""
    self.assertEqual(list(one.items()), list(other.items()))
    self.assertEqual([type(value) for value in one.values()], [type(value) for value in other.values()])


class Sums(unittest.TestCase):
    def cases(self):
        random = Random(3)
        for tables in databases():
            for text in UNIONS:
                for kind, choices in MARKS:
                    marks = {name: random.choice(choices) for name in tables.names}
                    yield tables, Union.read(text), kind(), marks

    def test_as_way_by_way(self):
        for tables, union, measure, marks in self.cases():
            kept = dict(marks)
            found = answers(tables, union, measure, marks)
            told = answers_told(tables, union, measure, marks)
            same(self, found, {head: told[head] for head in sorted(told)})
            self.assertIs(type(found), dict)
            self.assertTrue(all(type(head) is tuple for head in found))
            self.assertEqual(marks, kept)

    def test_as_polynomials_that_are_read(self):
        for tables, union, measure, marks in self.cases():
            told = {head: each(measure, marks) for head, each in polynomial_answers(tables, union).items()}
            same(self, answers(tables, union, measure, marks), told)

    def test_polynomials_have_the_names_as_marks(self):
        for tables in databases():
            for text in UNIONS:
                union = Union.read(text)
                marks = {name: (((name,), 1),) for name in tables.names}
                told = answers_told(tables, union, Polynomials(), marks)
                found = polynomial_answers(tables, union)
                self.assertEqual(list(found), sorted(told))
                self.assertIs(type(found), dict)
                for head, polynomial in found.items():
                    self.assertIs(type(polynomial), Polynomial)
                    self.assertEqual(polynomial.terms, told[head])

    def test_told(self):
        union = Union.read("x <- edge x y, edge x y, edge z y")
        marks = {"r": 2, "s": 3, "t": 5}
        self.assertEqual(answers(TABLES, union, Numbers(), marks), {(1,): 40, (2,): 90, (3,): 250})
        self.assertEqual(
            {head: str(each) for head, each in polynomial_answers(TABLES, union).items()},
            {(1,): "r r r + r r s + r r t", (2,): "r s s + s s s + s s t", (3,): "r t t + s t t + t t t"})

    def test_a_query_without_a_head(self):
        self.assertEqual(answers(TABLES, Union.read("<- edge x y"), Numbers(), {"r": 2, "s": 3, "t": 5}), {(): 10})
        self.assertEqual(str(polynomial_answers(TABLES, Union.read("<- edge x y"))[()]), "r + s + t")

    def test_a_query_that_stands_in_the_union_twice(self):
        query = Query.read("x <- edge x y")
        marks = {"r": 1, "s": 2, "t": 3}
        self.assertEqual(answers(TABLES, Union(query), Numbers(), marks), {(1,): 1, (2,): 2, (3,): 3})
        self.assertEqual(answers(TABLES, Union(query, query), Numbers(), marks), {(1,): 2, (2,): 4, (3,): 6})
        self.assertEqual(str(polynomial_answers(TABLES, Union(query, query, query))[(2,)]), "3 s")

    def test_sums_that_are_zero_stay(self):
        marks = {"r": 0, "s": 0, "t": 0}
        self.assertEqual(answers(TABLES, UNION, Numbers(), marks), {(1,): 0, (2,): 0, (3,): 0})
        marks = {"r": None, "s": 4, "t": 1}
        self.assertEqual(answers(TABLES, UNION, Cheapest(), marks), {(1,): None, (2,): 8, (3,): 5})
        marks = {"r": False, "s": True, "t": False}
        same(self, answers(TABLES, UNION, Holds(), marks), {(1,): False, (2,): True, (3,): False})

    def test_no_answer_rows(self):
        for tables in [TABLES, Tables([])]:
            for text in ["x <- node x", "x <- edge x", "<- edge x x y"]:
                marks = {name: 1 for name in tables.names}
                self.assertEqual(answers(tables, Union.read(text), Numbers(), marks), {})
                self.assertEqual(polynomial_answers(tables, Union.read(text)), {})
        marks = {"r": 1, "s": 1, "t": 1}
        self.assertEqual(answers(TABLES, Union.read("x <- edge x x"), Numbers(), marks), {(2,): 1})

    def test_answer_rows_ascend_across_queries(self):
        tables = Tables([("a", "a", (5,)), ("b", "a", (-5,)), ("c", "b", (0,)), ("d", "b", (-7,)), ("e", "b", (50,))])
        union = Union.read("x <- a x\nx <- b x")
        heads = [(-7,), (-5,), (0,), (5,), (50,)]
        self.assertEqual(list(polynomial_answers(tables, union)), heads)
        self.assertEqual(list(answers(tables, union, Numbers(), {name: 1 for name in "edcba"})), heads)


class WrongMarks(unittest.TestCase):
    def name_of(self, marks, measure, tables=TABLES, union=UNION):
        with self.assertRaises(InvalidMarks) as caught:
            answers(tables, union, measure, marks)
        return caught.exception.name

    def test_no_dict(self):
        for value in [value for value in no_names() if not isinstance(value, dict)]:
            self.assertIsNone(self.name_of(value, Numbers()))
            self.assertIsNone(self.name_of(value, Numbers(), Tables([])))
        self.assertIsNone(self.name_of([("r", 1), ("s", 1), ("t", 1)], Numbers()))

    def test_the_least_name_that_is_missing(self):
        self.assertEqual(self.name_of({}, Numbers()), "r")
        self.assertEqual(self.name_of({"t": 1, "r": 1}, Numbers()), "s")
        self.assertEqual(self.name_of({"s": 1, "r": 1}, Numbers()), "t")

    def test_a_missing_name_has_not_the_mark_none(self):
        for measure in [Cheapest(), Which()]:
            self.assertEqual(self.name_of({"r": None, "t": None}, measure), "s")
            found = answers(TABLES, UNION, measure, {"r": None, "s": None, "t": None})
            self.assertEqual(list(found.values()), [None] * 3)

    def test_the_least_name_with_a_wrong_mark(self):
        wrong = {
            Numbers: [None, True, False, -1, "1", (1,), [], {}, UNION, TABLES],
            Holds: [None, 0, 1, "True", (), []],
            Cheapest: [True, False, -1, "", (), [None]],
            Which: [(None,), ("a", "a"), ("b", "a"), ["a"], "a", True, ("A",)],
            Why: [None, ("a",), (("b", "a"),), (("b",), ("a",)), [()], ((), ()), (("a", "a"),)],
            Bags: [None, ("a",), (("b", "a"),), (("b",), ("a",)), [()], ((), ()), (((), 1),)],
            Dearest: [True, False, -1, "", (), [None]],
            Counted: [None, ((),), (((), 0),), (((), True),), ((("a",), 1), ((), 1)), ((("a", "a"), 1),)],
            Polynomials: [None, ((),), (((), 0),), (((), True),), ((("a",), 1), ((), 1)), ((("b", "a"), 1),)],
        }
        for kind, choices in MARKS:
            right = choices[-1]
            for value in wrong[kind]:
                self.assertEqual(self.name_of({"r": value, "s": value, "t": right}, kind()), "r")
                self.assertEqual(self.name_of({"t": value, "s": value, "r": right}, kind()), "s")
                self.assertEqual(self.name_of({"t": value, "s": right, "r": right}, kind()), "t")
                self.assertEqual(self.name_of({"t": right, "s": value}, kind()), "r")

    def test_rows_that_are_not_used_need_marks_too(self):
        tables = Tables([*TABLES.rows, ("a", "other", (1,))])
        self.assertEqual(self.name_of({"r": 1, "s": 1, "t": 1}, Numbers(), tables), "a")
        self.assertEqual(self.name_of({}, Numbers(), tables, Union.read("<- none x")), "a")

    def test_other_keys_mean_nothing(self):
        marks = {"r": 1, "s": 2, "t": 3}
        more = {"q": -1, "zz": None, 5: "no mark", None: (), (1,): [], True: True, **marks}
        told = answers(TABLES, UNION, Numbers(), marks)
        self.assertEqual(answers(TABLES, UNION, Numbers(), more), told)
        self.assertEqual(answers(Tables([]), UNION, Numbers(), more), {})
        self.assertEqual(len(more), 9)


class Arguments(unittest.TestCase):
    def test_the_order_of_the_keys_means_nothing(self):
        for names in ["rst", "tsr", "srt"]:
            marks = {name: "rst".index(name) + 1 for name in names}
            found = answers(TABLES, UNION, Numbers(), marks)
            self.assertEqual(list(found.items()), [((1,), 2), ((2,), 4), ((3,), 6)])

    def test_returned_dicts_are_new(self):
        marks = {"r": 1, "s": 2, "t": 3}
        first = answers(TABLES, UNION, Numbers(), marks)
        first[(9,)] = 9
        del first[(1,)]
        self.assertEqual(answers(TABLES, UNION, Numbers(), marks), {(1,): 2, (2,): 4, (3,): 6})
        second = polynomial_answers(TABLES, UNION)
        second.clear()
        self.assertEqual(len(polynomial_answers(TABLES, UNION)), 3)
        self.assertEqual(marks, {"r": 1, "s": 2, "t": 3})

    def test_keywords(self):
        marks = {"r": 1, "s": 2, "t": 3}
        self.assertEqual(answers(marks=marks, measure=Numbers(), union=UNION, tables=TABLES)[(3,)], 6)
        self.assertEqual(list(polynomial_answers(union=UNION, tables=TABLES)), [(1,), (2,), (3,)])


class Work(unittest.TestCase):
    def test_equal_products_are_gathered(self):
        names = "pqrstu"
        tables = Tables([(name, "a", (k,)) for k, name in enumerate(names)])
        queries = [Query((), [("a", (name,)) for name in letters]) for letters in ["uvxyz", "uvxyzz", "uvxyyz"]]
        measure = SmallNumbers()
        found = answers(tables, Union(*queries), measure, {name: 2 for name in names})
        self.assertEqual(found, {(): 6 ** 5 * (2 ** 5 + 2 ** 6 + 2 ** 6)})
        self.assertLess(measure.asked, 6 ** 5)

    def test_each_product_of_two_monomials(self):
        marks = {"r": ((("a",), 1), (("b",), 2)), "s": ((("c",), 1), (("d",), 1)), "t": ((("e",), 3),)}
        found = answers(TABLES, UNION, Polynomials(), marks)[(1,)]
        pairs = product(marks["r"], marks["s"])
        self.assertEqual(found, tuple(sorted((one + other, count * times) for (one, count), (other, times) in pairs)))


class Examples(unittest.TestCase):
    def test_of_the_document(self):
        marks = {"r": 1, "s": 2, "t": 0}
        self.assertEqual(
            [list(ways(TABLES, UNION.queries[0])), answers(TABLES, UNION, Numbers(), marks),
             str(polynomial_answers(TABLES, UNION)[(1,)])],
            [[(1, 2, 2), (2, 2, 2), (3, 2, 2)], {(1,): 2, (2,): 4, (3,): 0}, "r s"])


if __name__ == "__main__":
    unittest.main()
