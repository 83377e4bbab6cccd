import unittest
from itertools import combinations, permutations, product
from random import Random

from marktables.errors import UnknownMeasure
from marktables.least import check_core, core, least
from marktables.measures import Bags, Cheapest, Counted, Dearest, Holds, Measure, Numbers, Polynomials, Which, Why
from marktables.polynomials import Polynomial
from marktables.queries import Query, isomorphism
from marktables.unions import Union
from marktables.within import equal, within
from told import is_map_told, moved, random_pairs, random_query, union_of, unions
from values import nested, no_names


def query_of(text):
    return union_of(text).queries[0]


def some_queries():
    random = Random(81)
    found = [query for group in unions() for union in group for query in union.queries]
    for _ in range(150):
        tables = random.choice([[("a", 2)], [("a", 2), ("b", 1)], [("a", 1), ("b", 1)], [("a", 3)]])
        found.append(random_query(random, random.choice([0, 1, 2]), "vwxy", tables, 5))
    return found


def self_maps(query):
    return [value for value in product(query.variables, repeat=len(query.variables)) if is_map_told(query, query, value)]


def is_core_told(query, value):
    small, value = value
    if small.head != query.head or not set(small.atoms) <= set(query.atoms):
        return False
    if len(set(small.atoms)) != len(small.atoms) or not is_map_told(query, small, value):
        return False
    return all(set(moved(small, each)[1]) == set(small.atoms) for each in self_maps(small))


def parts_of(query):
    """All queries with the head and some of the distinct atoms, each once."""
    atoms = sorted(set(query.atoms))
    for size in range(1, len(atoms) + 1):
        for chosen in combinations(atoms, size):
            if set(query.head) <= {name for _, names in chosen for name in names}:
                yield Query(query.head, chosen)


class Cores(unittest.TestCase):
    def test_as_told(self):
        for query in some_queries():
            found = core(query)
            self.assertEqual([type(found), len(found), type(found[0]), type(found[1])], [tuple, 2, Query, tuple])
            self.assertTrue(is_core_told(query, found))
            self.assertIs(check_core(query, found), True)
            self.assertIs(equal(Union(query), Union(found[0]), Holds()), True)
            self.assertEqual(core(query), found)

    def test_no_query_with_fewer_atoms_is_equal(self):
        for query in some_queries()[::2]:
            size = len(core(query)[0].atoms)
            for part in parts_of(query):
                if len(part.atoms) < size:
                    self.assertIs(equal(Union(query), Union(part), Holds()), False)

    def test_told(self):
        for text, told in [
                ("<- a x, a y", "<- a x"), ("x <- a x, a y", "x <- a x"), ("x y <- a x, a y", "x y <- a x, a y"),
                ("<- a x x, a x y, a y z", "<- a x x"), ("<- a x y, a y x", "<- a x y, a y x"),
                ("<- a x y, a y z, a z x", "<- a x y, a y z, a z x"),
                ("<- a x y, a y x, a y z, a z y", "<- a x y, a y x"), ("x <- a x y, a x z, a y z", "x <- a x y, a x z, a y z"),
                ("x <- a x y, a x y, a z y", "x <- a x y"), ("<- a x, a x, a x", "<- a x"),
                ("<- a v w, a w x, a x y, a y z", "<- a v w, a w x, a x y, a y z"),
                ("<- a u v, a v u, a x y, a y z, a z x", "<- a u v, a v u, a x y, a y z, a z x"),
                ("<- a u v, a v u, a v x, a x y, a y u", "<- a u v, a v u"),
                ("<- a u v, a v u, a v x, a x y, a y z, a z u", "<- a u v, a v u, a v x, a x y, a y z, a z u")]:
            self.assertIsNotNone(isomorphism(core(query_of(text))[0], query_of(told)), text)

    def test_five_variables_and_six_atoms(self):
        random = Random(82)
        for _ in range(30):
            table = random.choice([("a", 1), ("a", 2), ("a", 3)])
            query = Query((), [(table[0], tuple(random.choice("vwxyz") for _ in range(table[1]))) for _ in range(6)])
            self.assertTrue(is_core_told(query, core(query)))

    def test_every_right_value_is_accepted(self):
        random = Random(83)
        tried = 0
        for query in some_queries():
            for part in parts_of(query):
                for value in product(part.variables, repeat=len(query.variables)):
                    if is_map_told(query, part, value) or random.random() < 0.02:
                        told = is_core_told(query, (part, value))
                        self.assertIs(check_core(query, (part, value)), told)
                        tried += told and (part, value) != core(query)
        self.assertGreater(tried, 30)


class CheckCore(unittest.TestCase):
    def test_values_of_every_kind(self):
        query = query_of("x <- a x y, a x z, b x, b x")
        small = query_of("x <- a x y, b x")
        self.assertIs(check_core(query, (small, ("x", "y", "y"))), True)
        other = query_of("x <- a x z, b x")
        self.assertIs(check_core(query, (other, ("x", "z", "z"))), True)
        wrong = [
            *no_names(), None, [small, ("x", "y", "y")], (small,), (small, ("x", "y", "y"), ()), (small, ["x", "y", "y"]),
            (small, None), (None, ("x", "y", "y")), (str(small), ("x", "y", "y")), (Union(small), ("x", "y", "y")),
            (small, ("x", "y", "z")), (small, ("y", "y", "y")), (small, ("x", "x", "x")), (small, ("x", "y")),
            (small, ("x", "y", "y", "y")), (small, {}), (small, "xyy"), (small, (0, 1, 1)), (small, ("x", ["y"], "y")),
            (("x", "y", "y"), small), (query, ("x", "y", "z")), (query, ("x", "y", "y")),
            (query_of("x <- a x y, b x, b x"), ("x", "y", "y")), (query_of("x <- a x y"), ("x", "y", "y")),
            (query_of("x <- b x"), ("x", "x", "x")), (query_of("<- a x y, b x"), ("x", "y", "y")),
            (query_of("y <- a x y, b x"), ("x", "y", "y")), (query_of("x x <- a x y, b x"), ("x", "y", "y")),
            (query_of("x <- a x w, b x"), ("x", "w", "w")), (query_of("x <- a x x, b x"), ("x", "x", "x")),
            (query_of("x <- a x, b x"), ("x", "x", "x")), (query_of("x <- a x y, b x, c x"), ("x", "y", "y")),
            (query_of("x <- a x y, a x z, b x"), ("x", "y", "z")), (query_of("x <- a x y, a x z, b x"), ("x", "y", "y")),
            (small, nested(50)), nested(50), (Polynomial([]), ("x", "y", "y")), (Why(), ("x", "y", "y")), (small, small),
            (small, ("x",) * 4000),
        ]
        for value in wrong:
            self.assertIs(check_core(query, value), False, value)

    def test_other_names_are_no_core(self):
        query = query_of("<- a x y")
        self.assertIs(check_core(query, (query, ("x", "y"))), True)
        self.assertIs(check_core(query, (query_of("<- a u v"), ("u", "v"))), False)


def text_of_shape(query):
    """The least text of all names for the variables."""
    names = "abcde"[:len(query.variables)]
    return min(str(query.image(each)) for each in permutations(names))


class Least(unittest.TestCase):
    def cases(self):
        found = [union for group in unions() for union in group]
        for one, other in random_pairs(84, 80, "xyz", 3):
            found += [one, other]
            if len(one) + len(other) <= 3:
                found.append(one | other)
        return found

    def test_equal_and_no_query_within_another(self):
        for union in self.cases():
            for measure in [Holds(), Why(), Bags()]:
                found = least(union, measure)
                self.assertIs(type(found), Union)
                self.assertIs(equal(union, found, measure), True)
                for k, query in enumerate(found.queries):
                    for at, other in enumerate(found.queries):
                        if k != at:
                            self.assertEqual(within(Union(query), Union(other), measure)[0], "no")
                self.assertEqual(least(union, measure), found)

    def test_forms_of_the_queries(self):
        for union in self.cases():
            for query in least(union, Holds()).queries:
                self.assertTrue(any(check_core(each, (query, value)) for each in union.queries
                                    for value in product(query.variables, repeat=len(each.variables))
                                    if is_map_told(each, query, value)))
            single = [Query(query.head, sorted(set(query.atoms))) for query in union.queries]
            self.assertTrue(all(query in single for query in least(union, Why()).queries))
            self.assertTrue(all(query in union.queries for query in least(union, Bags()).queries))
            self.assertEqual(least(union, Counted()), Union(*single))
            self.assertEqual(least(union, Polynomials()), union)
            for measure in [Counted(), Polynomials()]:
                self.assertIs(equal(union, least(union, measure), measure), True)

    def test_no_union_with_fewer_queries(self):
        # Of the queries of the union, and of all their parts.
        for union in self.cases():
            for measure in [Holds(), Why(), Bags()]:
                size = len(least(union, measure))
                for count in range(1, size):
                    for chosen in combinations(union.queries, count):
                        self.assertIs(equal(union, Union(*chosen), measure), False)

    def test_the_same_up_to_order_and_names(self):
        random = Random(85)
        for union in self.cases():
            queries = [query.image(tuple(random.sample(["k", "m", "zz", "x", "y", "w"], len(query.variables))))
                       for query in union.queries]
            random.shuffle(queries)
            for measure in [Holds(), Why(), Bags(), Counted(), Polynomials()]:
                texts = [sorted(text_of_shape(query) for query in least(each, measure).queries)
                         for each in (union, Union(*queries))]
                self.assertEqual(*texts)

    def test_told(self):
        for text, holds, why, bags in [
                ("<- a x\n<- a x", 1, 1, 1), ("<- a x\n<- a y\n<- a z", 1, 1, 1), ("<- a x\n<- a x, a x", 1, 1, 2),
                ("<- a x\n<- a x, a y", 1, 1, 2), ("<- a x\n<- b x", 2, 2, 2), ("<- a x y\n<- a x x", 1, 1, 1),
                ("<- a x x\n<- a x y\n<- a y x", 1, 1, 1), ("<- a x, a x\n<- a x, a y", 1, 1, 1),
                ("x <- a x y\nx <- a x y, a x z\nx <- a x y, a z z", 1, 2, 3)]:
            sizes = [len(least(union_of(text), measure)) for measure in (Holds(), Why(), Bags())]
            self.assertEqual(sizes, [holds, why, bags], text)

    def test_repeated_atoms(self):
        union = union_of("<- a x, a x\n<- a x, a x")
        self.assertEqual(least(union, Counted()), union_of("<- a x\n<- a x"))
        self.assertEqual(least(union, Polynomials()), union)
        self.assertEqual(least(union, Bags()), union_of("<- a x, a x"))
        self.assertEqual(least(union, Why()), union_of("<- a x"))
        self.assertEqual(least(union, Holds()), union_of("<- a x"))

    def test_unknown_measures(self):
        union = union_of("<- a x")
        others = [value for value in no_names() if not isinstance(value, (Measure, Numbers))]
        for value in [Which(), Cheapest(), Dearest(), Numbers(), Holds, "holds", [Holds()], (Why(),), *others]:
            with self.assertRaises(UnknownMeasure):
                least(union, value)

    def test_keywords(self):
        query = query_of("<- a x, a x")
        self.assertEqual(least(measure=Bags(), union=Union(query)), Union(query))
        self.assertEqual(core(query=query), (query_of("<- a x"), ("x",)))
        self.assertIs(check_core(value=core(query), query=query), True)


class Examples(unittest.TestCase):
    def test_of_the_document(self):
        query = Query.read("x <- a x y, a x z")
        small = Query.read("x <- a x y")
        union = Union(small, Query.read("x <- a x y, a y z"))
        self.assertEqual(
            [len(core(query)[0].atoms), check_core(query, (small, ("x", "y", "y"))), str(least(union, Holds()))],
            [1, True, "x <- a x y"])


if __name__ == "__main__":
    unittest.main()
