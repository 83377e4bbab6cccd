import unittest
from inspect import isgenerator
from itertools import permutations, product
from random import Random

from marktables.errors import InvalidTables
from marktables.queries import Query
from marktables.tables import Tables, ways
from marktables.unions import Union
from values import nested, no_names

R = ("r", "edge", (1, 2))
S = ("s", "edge", (2, 2))
LOOP = ("loop", "node", (2,))
LIMIT = 10 ** 9


def reason_of(rows):
    try:
        Tables(rows)
    except InvalidTables as error:
        return error.reason
    return None


def no_rows():
    """Values of every kind, none of which is a row."""
    shapes = [
        ("r", "edge"), ("r", "edge", (1, 2), ()), ["r", "edge", (1, 2)], ("r", "edge", [1, 2]), ("r", "edge", ()),
        ("r", "edge", (1, 2, 3, 4)), ("r", "edge", 1), ("r", "edge", "12"), ("r", "edge", {1: 2}), ("r", "edge", None),
        ("edge", (1, 2)), ("edge", "r", 1, 2), "abc", ("r", ("edge", (1, 2))),
    ]
    for value in no_names():
        shapes.extend([value, (value, "edge", (1, 2)), ("r", value, (1, 2))])
    for value in no_values():
        shapes.extend([("r", "edge", (value,)), ("r", "edge", (1, value)), ("r", "edge", (value, 1, 2))])
    return shapes


def no_values():
    """Values of every kind, none of which may be in the values of a row."""
    wrong = [value for value in no_names() if not (isinstance(value, int) and abs(value) < 10)]
    return [*wrong, True, False, "1", (1,), [1], LIMIT + 1, -LIMIT - 1, 2 * LIMIT, 10 ** 18]


class Reasons(unittest.TestCase):
    def test_databases(self):
        for rows in [[], (), [R], (R, S), [S, R, LOOP], [("abcdefgh", "abcdefgh", (0, 0, 0))]]:
            self.assertIsNone(reason_of(rows))
        values = (LIMIT, -LIMIT, 0)
        self.assertIsNone(reason_of([("r", "a", values)]))
        self.assertEqual(Tables([("r", "a", values)]).rows, (("r", "a", values),))

    def test_rows(self):
        self.assertEqual(Tables.MOST_ROWS, 6)
        for value in [None, True, 0, "", "rows", {}, {R: True}, Tables([R]), Query((), [("a", ("x",))]), 10 ** 999]:
            self.assertEqual(reason_of(value), ("rows",))
        six = [(name, "a", (k,)) for k, name in enumerate("abcdef")]
        self.assertIsNone(reason_of(six))
        for rows in [[*six, ("g", "a", (6,))], (*six, None), [None] * 7, [R] * 5000]:
            self.assertEqual(reason_of(rows), ("rows",))

    def test_row(self):
        for value in no_rows():
            self.assertEqual(reason_of([value]), ("row", 0))
            self.assertEqual(reason_of((R, S, value, value)), ("row", 2))
        self.assertEqual(reason_of([nested(49)]), ("row", 0))

    def test_booleans_are_no_values(self):
        self.assertEqual(reason_of([("r", "edge", (True, 2))]), ("row", 0))
        self.assertEqual(reason_of([R, ("t", "edge", (1, False))]), ("row", 1))

    def test_name(self):
        self.assertEqual(reason_of([R, R]), ("name", 1))
        self.assertEqual(reason_of([R, S, ("r", "other", (1,))]), ("name", 2))
        self.assertEqual(reason_of([R, ("edge", "r", (5,)), LOOP, ("edge", "edge", (7, 7)), R]), ("name", 3))

    def test_places(self):
        self.assertEqual(reason_of([R, ("t", "edge", (1,))]), ("places", 1))
        self.assertEqual(reason_of([LOOP, R, S, ("t", "node", (1, 2)), ("u", "edge", (1,))]), ("places", 3))
        self.assertEqual(reason_of([("t", "edge", (1, 2, 3)), R]), ("places", 1))

    def test_repeated(self):
        self.assertEqual(reason_of([R, ("t", "edge", (1, 2))]), ("repeated", 1))
        self.assertEqual(reason_of([R, S, LOOP, ("t", "node", (2,)), ("u", "edge", (2, 2))]), ("repeated", 3))
        self.assertIsNone(reason_of([R, ("t", "edge", (2, 1)), ("u", "other", (1, 2))]))

    def test_the_least_number_comes_before_the_order_of_the_reasons(self):
        again, other, wide = ("r", "x", (1,)), ("t", "edge", (1, 2)), ("t", "edge", (1,))
        self.assertEqual(reason_of([R, other, None]), ("repeated", 1))
        self.assertEqual(reason_of([R, wide, None]), ("places", 1))
        self.assertEqual(reason_of([R, again, None]), ("name", 1))
        self.assertEqual(reason_of([R, other, wide, again]), ("repeated", 1))
        self.assertEqual(reason_of([R, None, again]), ("row", 1))

    def test_the_order_of_the_reasons_for_one_row(self):
        self.assertEqual(reason_of([R, ("r", "edge", ())]), ("row", 1))
        self.assertEqual(reason_of([R, ("r", "edge", (1,))]), ("name", 1))
        self.assertEqual(reason_of([R, ("r", "edge", (1, 2))]), ("name", 1))
        self.assertEqual(reason_of([None] * 7), ("rows",))


class Properties(unittest.TestCase):
    def test_rows_and_names_ascend(self):
        for rows in permutations([R, S, LOOP]):
            made = Tables(rows)
            self.assertEqual(made.rows, (LOOP, R, S))
            self.assertEqual(made.names, ("loop", "r", "s"))
            self.assertEqual(len(made), 3)
            for value in [made.rows, made.names, *made.rows]:
                self.assertIs(type(value), tuple)
        empty = Tables(())
        self.assertEqual([empty.rows, empty.names, len(empty)], [(), (), 0])

    def test_arguments_are_neither_kept_nor_changed(self):
        rows = [S, R]
        made = Tables(rows)
        self.assertEqual(rows, [S, R])
        rows.append(LOOP)
        rows[0] = ("t", "edge", (3, 3))
        self.assertEqual(made.rows, (R, S))
        self.assertEqual(Tables(rows=[R]), Tables([R]))

    def test_in(self):
        made = Tables([R, S, LOOP])
        for row in [R, S, LOOP]:
            self.assertIs(row in made, True)
            self.assertIs(row not in made, False)
        others = [
            *no_rows(), ("r", "edge", (2, 2)), ("s", "edge", (1, 2)), ("t", "edge", (1, 2)), ("r", "node", (1, 2)),
            ("loop", "node", (2, 2)), "r", ("r",), (1, 2), [R, S, LOOP], (R,), made, nested(50),
        ]
        for value in others:
            self.assertIs(value in made, False)
            self.assertIs(value in Tables([]), False)

    def test_a_boolean_is_not_in_for_an_integer(self):
        made = Tables([("r", "edge", (1, 0))])
        self.assertIs(("r", "edge", (1, 0)) in made, True)
        for values in [(True, 0), (1, False), (True, False)]:
            self.assertIs(("r", "edge", values) in made, False)

    def test_equality(self):
        made = Tables([R, S])
        self.assertIs(made == Tables((S, R)), True)
        self.assertIs(made != Tables((S, R)), False)
        self.assertIs(Tables([]) == Tables(()), True)
        others = [
            Tables([R]), Tables([R, S, LOOP]), Tables([("s", "edge", (1, 2)), ("r", "edge", (2, 2))]), made.rows,
            list(made.rows), Union(Query.read("<- a x")), *[value for value in no_names() if value != Tables([R])],
        ]
        for other in others:
            self.assertIs(made == other, False)
            self.assertIs(other == made, False)
            self.assertIs(made != other, True)


def all_ways(tables, query):
    """The ways in ascending order, found among all tuples of values of the database."""
    values = sorted({value for row in tables.rows for value in row[2]})
    facts = [row[1:] for row in tables.rows]
    found = []
    for way in product(values, repeat=len(query.variables)):
        new = dict(zip(query.variables, way))
        if all((table, tuple(new[name] for name in names)) in facts for table, names in query.atoms):
            found.append(way)
    return found


QUERIES = [
    "<- a x y", "x <- a x x", "x z <- a x y, a y z", "x <- a x y, a y x", "<- a x y, b y", "x <- b x, b y, b z",
    "<- a x y, a x y, b x", "z y <- c x y z", "<- c x x y", "<- a x y, c y y x", "<- a x y, a y z, a z x",
    "<- d x", "<- a x y, d y", "<- b x y", "<- a x", "<- b u, b v, b x, b y, b z", "<- c y x x, c z z x",
]


def databases():
    random = Random(5)
    made = [Tables([]), Tables([R, S]), Tables([("r", "a", (3, 3))])]
    while len(made) < 40:
        facts = {}
        for name in "rstuvw"[:random.randrange(2, 7)]:
            table, count = random.choice([("a", 2), ("a", 2), ("b", 1), ("c", 3)])
            facts[(table, tuple(random.choice([-10, 2, 10]) for _ in range(count)))] = name
        made.append(Tables([(name, table, values) for (table, values), name in facts.items()]))
    return made


class Ways(unittest.TestCase):
    def test_all_ways_in_ascending_order(self):
        none = several = 0
        for tables in databases():
            for text in QUERIES:
                query = Query.read(text)
                found = list(ways(tables, query))
                self.assertEqual(found, all_ways(tables, query))
                self.assertTrue(all(type(way) is tuple for way in found))
                none += not found
                several += len(found) > 1
        self.assertGreater(none, 50)
        self.assertGreater(several, 50)

    def test_told(self):
        tables = Tables([("r", "a", (10, -2)), ("s", "a", (-10, -2)), ("t", "a", (9, 9)), ("u", "b", (9,))])
        self.assertEqual(list(ways(tables, Query.read("<- a x y"))), [(-10, -2), (9, 9), (10, -2)])
        self.assertEqual(list(ways(tables, Query.read("<- a y x"))), [(-2, -10), (-2, 10), (9, 9)])
        self.assertEqual(list(ways(tables, Query.read("<- a x x"))), [(9,)])
        self.assertEqual(list(ways(tables, Query.read("<- a x y, b y"))), [(9, 9)])
        self.assertEqual(list(ways(tables, Query.read("<- a x y, a y x, a y x"))), [(9, 9)])

    def test_tables_that_the_database_lacks_or_has_with_other_places(self):
        tables = Tables([R, S, LOOP])
        texts = [
            "<- other x", "<- edge x", "<- edge x y z", "<- node x y", "<- edge x y, other x", "<- edge x y, node x x"]
        for text in texts:
            self.assertEqual(list(ways(tables, Query.read(text))), [])
        self.assertEqual(list(ways(Tables([]), Query.read("<- edge x y"))), [])

    def test_a_generator_that_does_not_wait_for_all(self):
        tables = Tables([(name, "a", (k,)) for k, name in enumerate("pqrstu")])
        found = ways(tables, Query((), [("a", (name,)) for name in "uvxyz"]))
        self.assertTrue(isgenerator(found))
        self.assertEqual([next(found), next(found)], [(0, 0, 0, 0, 0), (0, 0, 0, 0, 1)])
        self.assertEqual(sum(1 for _ in found), 6 ** 5 - 2)

    def test_arguments_stay_as_they_were(self):
        tables, query = Tables([R, S]), Query.read("x <- edge x y, edge y z")
        self.assertEqual(list(ways(query=query, tables=tables)), list(ways(tables, query)))
        self.assertEqual([tables.rows, str(query)], [(R, S), "x <- edge x y, edge y z"])


if __name__ == "__main__":
    unittest.main()
