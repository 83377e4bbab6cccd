"""The greatest arguments that the document names: every call returns within a few seconds."""

import unittest
from itertools import combinations
from random import Random
from time import perf_counter

from marktables.maps import first_map, maps
from marktables.measures import Bags, Cheapest, Counted, Dearest, Holds, Numbers, Polynomials, Which, Why
from marktables.polynomials import Polynomial
from marktables.queries import Query
from marktables.reading import after, difference, least_deletions, reasons
from marktables.tables import Tables, answers, polynomial_answers, ways
from marktables.unions import Union

SECONDS = 8
NAMES = "efghij"
TABLES = Tables([(name, "a", (k,)) for k, name in enumerate(NAMES)])


def query(head, letters):
    """A query with an atom of the table a for each letter."""
    return Query(tuple(head), [("a", (letter,)) for letter in letters])


def three(head):
    """A union with more than 20,000 ways in TABLES."""
    return Union(query(head, "uvxyz"), query(head, "uvxyzz"), query(head, "uvxyyz"))


def two_monomials(names):
    """For each name a mark with two monomials of three names; the counts add up to 3."""
    return {name: (((name, name + "a", name + "b"), 1), ((name + "c", name + "d", name + "e"), 2)) for name in names}


def long_polynomial(random, words, length, count):
    """A polynomial with so many terms, each with so many of the words and a coefficient of 30 digits."""
    monomials = [tuple(sorted(random.choice(words) for _ in range(length))) for _ in range(count)]
    return Polynomial([(monomial, 10 ** 29 + k) for k, monomial in enumerate(monomials)])


class Speed(unittest.TestCase):
    def timed(self, call):
        start = perf_counter()
        found = call()
        self.assertLess(perf_counter() - start, SECONDS)
        return found

    def test_maps(self):
        source = query("", "uvxyz")
        self.assertEqual(len(self.timed(lambda: list(maps(source, source)))), 5 ** 5)
        self.assertIsNone(self.timed(lambda: first_map(source, query("", "uvxyzz"), "exact")))

    def test_maps_that_lead_nowhere(self):
        # Paths along which only the last atom fails.
        source = Query.read("<- a u v, a v x, a x y, a y z, b z z")
        goal = Query.read("<- a p p, a p q, a q p, a q q, b p q")
        self.assertEqual(self.timed(lambda: list(maps(source, goal))), [])

    def test_ways_of_wide_rows(self):
        # 18 different values for 5 variables: too many tuples to try.
        tables = Tables([(name, "a", (k, k + 100, k + 200)) for k, name in enumerate(NAMES)])
        wide = Query((), [("a", ("u", "v", "x")), ("a", ("u", "y", "z"))])
        found = self.timed(lambda: list(ways(tables, wide)))
        self.assertEqual(found, [(k, 100 + k, 200 + k, 100 + k, 200 + k) for k in range(6)])

    def test_more_than_20000_ways(self):
        for head, count in [("", 1), ("uvx", 216)]:
            found = self.timed(lambda: polynomial_answers(TABLES, three(head)))
            self.assertEqual(len(found), count)
            self.assertEqual(sum(each for value in found.values() for _, each in value.terms), 3 * 6 ** 5)

    def test_answers_of_more_than_20000_ways(self):
        three_names = {name: (name, name + "a", name + "b") for name in NAMES}
        for measure, marks in [
                (Numbers(), {name: 10 ** 20 for name in NAMES}),
                (Holds(), {name: True for name in NAMES}),
                (Cheapest(), {name: 7 for name in NAMES}),
                (Which(), three_names),
                (Why(), {name: (three_names[name],) for name in NAMES}),
                (Bags(), {name: (three_names[name],) for name in NAMES}),
                (Dearest(), {name: 10 ** 20 for name in NAMES}),
                (Counted(), {name: ((three_names[name], 10 ** 20),) for name in NAMES}),
                (Polynomials(), {name: ((three_names[name], 10 ** 20),) for name in NAMES})]:
            for head, count in [("", 1), ("uvx", 216)]:
                self.assertEqual(len(self.timed(lambda: answers(TABLES, three(head), measure, marks))), count)

    def test_answers_with_two_monomials(self):
        tables = Tables([(name, "a" if k < 3 else "b", (k,)) for k, name in enumerate("rstuvw")])
        atoms = [("a", ("u",)), ("a", ("v",)), ("a", ("x",)), ("b", ("y",)), ("b", ("z",))]
        union = Union(Query((), [*atoms, ("b", ("z",))]), Query((), [*atoms, ("a", ("x",))]))
        marks = two_monomials("rstuvw")
        found = self.timed(lambda: answers(tables, union, Polynomials(), marks))
        self.assertGreater(len(found[()]), 5000)
        self.assertEqual(sum(count for _, count in found[()]), 2 * 3 ** 5 * 3 ** 6)

    def test_difference(self):
        found = self.timed(lambda: difference(TABLES, three("uvx"), ["e"], [("zz", "a", (0,))]))
        self.assertEqual(len(found), 216)

    def test_products_of_polynomials(self):
        random = Random(1)
        words = [left + right for left in "abcdefgh" for right in "abcdefgh"]
        one, other = long_polynomial(random, words, 30, 141), long_polynomial(random, words, 30, 141)
        made = self.timed(lambda: one * other)
        self.assertEqual(len(made.terms), 141 * 141)
        marks = {word: 1 for word in words}
        found = self.timed(lambda: made(Numbers(), marks))
        self.assertEqual(found, one(Numbers(), marks) * other(Numbers(), marks))

    def test_calls(self):
        random = Random(2)
        many = long_polynomial(random, "klmnopqr", 30, 2000)
        self.timed(lambda: many(Numbers(), {name: 10 ** 9 for name in "klmnopqr"}))
        self.timed(lambda: many(Cheapest(), {name: 10 ** 9 for name in "klmnopqr"}))
        few = long_polynomial(random, "klmnopqr", 4, 60)
        marks = two_monomials("klmnopqr")
        found = self.timed(lambda: few(Polynomials(), marks))
        self.assertEqual(sum(count for _, count in found), 81 * (60 * 10 ** 29 + 59 * 30))

    def test_reading(self):
        random = Random(3)
        made = Polynomial([(tuple(sorted("".join(random.choice("abcd") for _ in range(5)) for _ in range(30))), 1)
                           for _ in range(400)])
        self.assertEqual(len(self.timed(lambda: reasons(made))), 400)
        self.timed(lambda: after(made, ["aaaaa", "bbbbb"] * 2000))
        for size in range(1, 11):
            all_of_one_size = Polynomial([(names, 1) for names in combinations("abcdefghij", size)])
            found = self.timed(lambda: least_deletions(all_of_one_size))
            self.assertEqual(found, list(combinations("abcdefghij", 11 - size)))


if __name__ == "__main__":
    unittest.main()
