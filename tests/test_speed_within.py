"""Unions of the greatest size that the document names: every call returns within a few seconds."""

import unittest
from itertools import product
from time import perf_counter

from marktables.apart import apart, check_apart
from marktables.desk import Desk
from marktables.groupings import groupings
from marktables.least import check_core, core, least
from marktables.measures import Bags, Counted, Holds, Numbers, Polynomials, Why
from marktables.order import telling
from marktables.papers import carried, converted, joined_papers
from marktables.queries import Query
from marktables.unions import Union
from marktables.within import check_within, equal, within, witness_rows
from told import TELLING

SECONDS = 8


def letters(text, head=""):
    """A query with an atom of the table a for each letter."""
    return Query(tuple(head), [("a", (letter,)) for letter in text])


def edges(text):
    """A query with an atom of the table a for each pair of letters."""
    return Query((), [("a", tuple(pair)) for pair in text.split()])


def unions():
    """Unions of three queries with five variables and up to six atoms."""
    return [
        Union(letters("uvxyz"), letters("uvxyzz"), letters("uvxyyz")),
        Union(letters("uvxyzu"), letters("uvxyzu"), letters("uvxyzu")),
        Union(letters("uvxy"), letters("uuvxxy"), letters("uuuvvz")),
        Union(letters("uuuvvx"), letters("uuuuuv"), letters("uuuuuu")),
        Union(*[Query((), [("a", (name,)) for name in "uvxyz"] + [("b", ("z",))])] * 3),
    ]


def wide_unions():
    return [
        Union(edges("uv vx xy yz zu uu"), edges("uv vx xy yz zu vv"), edges("uv vx xy yz zu")),
        Union(edges("uu vv xx yy zz uz"), edges("uu vv xx yy zz uz"), edges("uu vv xx yy zz")),
        Union(edges("uv ux uy uz zu"), edges("uv ux uy uz zz"), edges("uv uv uv ux uy uz")),
    ]


class Speed(unittest.TestCase):
    def timed(self, call):
        start = perf_counter()
        found = call()
        self.assertLess(perf_counter() - start, SECONDS)
        return found

    def check(self, one, other):
        for measure in TELLING:
            answer = self.timed(lambda: within(one, other, measure))
            self.assertIsNone(self.timed(lambda: check_within(one, other, measure, answer)))
            if answer[0] == "no":
                self.timed(lambda: witness_rows(one, measure, answer))
            if measure.label in ("cheapest", "dearest", "polynomials"):
                self.timed(lambda: equal(one, other, measure))
        found = self.timed(lambda: apart(one, other))
        if found is not None:
            self.assertLessEqual(max(found[2]), 1000)
        self.assertIs(self.timed(lambda: check_apart(one, other, found)), found is not None)
        self.assertIs(self.timed(lambda: equal(one, other, Numbers())), found is None)

    def test_one_place(self):
        first, *others = unions()
        for one, other in [(first, first), *[(first, each) for each in others], (others[2], first), (others[1], first)]:
            self.check(one, other)

    def test_two_places(self):
        for one, other in product(wide_unions(), repeat=2):
            self.check(one, other)

    def test_papers(self):
        first, *others = unions()
        for one in [first, others[2]]:
            for measure in TELLING:
                paper = within(one, first, measure)[1] if within(one, first, measure)[0] == "yes" else []
                if paper:
                    self.timed(lambda: joined_papers(one, first, first, measure, paper, within(first, first, measure)[1]))
                    self.timed(lambda: converted(measure, Holds(), paper))
                    self.timed(lambda: carried(one, measure, paper, 0, tuple(range(len(one.queries[0].variables)))))
            self.timed(lambda: telling(one, first))

    def test_least_unions(self):
        for union in [*unions(), *wide_unions()]:
            for query in union.queries:
                found = self.timed(lambda: core(query))
                self.assertIs(self.timed(lambda: check_core(query, found)), True)
            for measure in [Holds(), Why(), Bags(), Counted(), Polynomials()]:
                found = self.timed(lambda: least(union, measure))
                self.assertIs(equal(union, found, measure), True)

    def test_a_desk_with_more_than_20000_ways(self):
        desk = Desk([("rstuvw"[k], "a", (k,)) for k in range(6)])
        desk.watch("many", unions()[0])
        self.assertEqual(len(self.timed(lambda: desk.news("many"))), 1)
        desk.take("r")
        self.timed(lambda: desk.answer("many"))
        self.assertEqual(len(self.timed(lambda: desk.news("many"))), 1)

    def test_groupings(self):
        self.assertEqual(len(self.timed(lambda: list(groupings(letters("uvxyzz"))))), 52)

    def test_right_answers_with_great_integers(self):
        one, other = Union(letters("uvxyzz")), Union(letters("uvxyzu"), letters("uvxyz"))
        answer = within(one, other, TELLING[4])
        self.assertEqual(answer[0], "yes")
        paper = [[(j, value, times * 10 ** 999) for j, value, times in entry] for entry in answer[1]]
        self.assertIsNone(self.timed(lambda: check_within(one, other, TELLING[4], ("yes", paper))))
        self.assertIs(self.timed(lambda: check_apart(one, other, (0, 0, (10 ** 999,) * 5))), True)


if __name__ == "__main__":
    unittest.main()
