"""Every function, method and constructor of the interface, called with keywords in another order than the signature's."""

import unittest
from importlib import import_module

from marktables import errors
from marktables.desk import Desk
from marktables.measures import Why
from marktables.polynomials import Polynomial
from marktables.queries import Query
from marktables.tables import Tables
from measure_marks import CLASSES
from told import union_of

QUERY = Query(("x",), [("a", ("x", "y"))])
UNION = union_of("x <- a x y")
ROWS = [("r", "a", (1, 2))]
TABLES = Tables(ROWS)
POLYNOMIAL = Polynomial([(("r",), 2)])
PAPER = [(0, ("x", "y"))]
# For each file and function the arguments in their order.
CALLS = {
    "queries": {
        "Query": {"head": ("x",), "atoms": [("a", ("x", "y"))]}, "normal": {"query": QUERY},
        "isomorphism": {"one": QUERY, "other": QUERY},
    },
    "unions": {"normal_union": {"union": UNION}, "same_lists": {"one": UNION, "other": UNION}},
    "maps": {
        "maps": {"source": QUERY, "goal": QUERY}, "map_error": {"source": QUERY, "goal": QUERY, "value": ("y", "x")},
        "counts": {"source": QUERY, "goal": QUERY, "value": ("x", "y")},
        "kind": {"source": QUERY, "goal": QUERY, "value": ("x", "y")},
        "first_map": {"source": QUERY, "goal": QUERY, "wanted": "onto"},
        "composed": {"source": QUERY, "middle": QUERY, "goal": QUERY, "first": ("x", "y"), "second": ("x", "y")},
    },
    "polynomials": {"Polynomial": {"terms": [(("r",), 2)]}},
    "tables": {
        "Tables": {"rows": ROWS}, "ways": {"tables": TABLES, "query": QUERY},
        "answers": {"tables": TABLES, "union": UNION, "measure": Why(), "marks": {"r": (("p",),)}},
        "polynomial_answers": {"tables": TABLES, "union": UNION},
    },
    "reading": {
        "after": {"polynomial": POLYNOMIAL, "names": ["s"]}, "reasons": {"polynomial": POLYNOMIAL},
        "least_deletions": {"polynomial": POLYNOMIAL},
        "difference": {"tables": TABLES, "union": UNION, "names": ["r"], "rows": [("s", "a", (3, 4))]},
    },
    "groupings": {"groupings": {"query": QUERY}},
    "within": {
        "within": {"one": UNION, "other": UNION, "measure": Why()},
        "witness_rows": {"one": UNION, "measure": Why(), "answer": ("no", 0, ("x", "y"), ())},
        "check_within": {"one": UNION, "other": UNION, "measure": Why(), "answer": ("no", 0, ("x", "y"), ())},
        "equal": {"one": UNION, "other": UNION, "measure": Why()},
    },
    "apart": {
        "apart": {"one": UNION, "other": union_of("x <- b x")},
        "check_apart": {"one": UNION, "other": union_of("x <- b x"), "value": (0, 0, (1,))},
    },
    "order": {
        "implies": {"first": CLASSES[0](), "second": Why()},
        "parting": {"first": CLASSES[0](), "second": Why(), "table": "a", "places": 2},
        "telling": {"one": UNION, "other": union_of("x <- a y x")},
    },
    "papers": {
        "carried": {"one": UNION, "measure": Why(), "paper": PAPER, "number": 0, "way": (4, 5)},
        "converted": {"first": Why(), "second": CLASSES[0](), "paper": PAPER},
        "joined_papers": {"one": UNION, "middle": UNION, "other": UNION, "measure": Why(), "first": PAPER, "second": PAPER},
    },
    "least": {
        "core": {"query": QUERY}, "check_core": {"query": QUERY, "value": (QUERY, ("x", "y"))},
        "least": {"union": UNION, "measure": Why()},
    },
}


def whole(value):
    """Generators as lists."""
    return list(value) if hasattr(value, "__next__") else value


class Keywords(unittest.TestCase):
    def test_functions_and_constructors(self):
        for file, calls in CALLS.items():
            for name, arguments in calls.items():
                function = getattr(import_module(f"marktables.{file}"), name)
                told = whole(function(*arguments.values()))
                turned = dict(reversed(list(arguments.items())))
                self.assertEqual(whole(function(**turned)), told, name)
                self.assertEqual(whole(function(**arguments)), told, name)

    def test_methods(self):
        self.assertEqual(QUERY.image(names=("u", "v")), Query.read(text="u <- a u v"))
        self.assertEqual(type(UNION).read(text="x <- a x y"), UNION)
        self.assertEqual(POLYNOMIAL(marks={"r": (("p",),)}, measure=Why()), (("p",),))
        for kind in CLASSES:
            zero, one = kind().zero(), kind().one()
            self.assertEqual(kind().plus(b=zero, a=one), one)
            self.assertEqual(kind().times(b=zero, a=one), zero)
            self.assertIs(kind().at_most(b=one, a=zero), True)
            self.assertIs(kind().at_most(b=zero, a=one), False)
            self.assertTrue(kind().is_mark(value=kind().named(name="r")))

    def test_the_desk(self):
        desk = Desk(rows=ROWS)
        desk.put(row=("s", "a", (3, 4)))
        desk.take(name="r")
        desk.watch(union=UNION, title="one")
        self.assertEqual(list(desk.answer(title="one")), [(3,)])
        self.assertEqual(list(desk.news(title="one")), [(3,)])
        desk.attempt(deeds=[("take", "s")])
        desk.drop(title="one")
        self.assertEqual(desk.log[2:], (("watch", "one"), ("attempt", 1), ("drop", "one")))

    def test_errors(self):
        for name, attribute in [
                ("InvalidDeed", "number"), ("InvalidMark", "value"), ("InvalidMarks", "name"), ("InvalidQuery", "reason"),
                ("InvalidTables", "reason"), ("InvalidUnion", "reason"), ("KnownTitle", "title"),
                ("NegativeTerm", "monomial"), ("TooMany", "count"), ("UnknownRow", "name"), ("UnknownTitle", "title")]:
            self.assertEqual(getattr(getattr(errors, name)(**{attribute: [1]}), attribute), [1])


if __name__ == "__main__":
    unittest.main()
