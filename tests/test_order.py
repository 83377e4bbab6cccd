import unittest
from itertools import product

from marktables.errors import OtherHeads, OtherPlaces, UnknownMeasure
from marktables.measures import Bags, Dearest, Measure, Numbers, Which, Why
from marktables.order import implies, parting, telling
from marktables.unions import Union
from marktables.within import within
from measure_marks import LABELS
from told import TELLING, answer_told, pairs, random_pairs, union_of, witness_told
from values import no_names

# What the document lists.
LISTED = {
    "counted": ["why"], "bags": ["why", "cheapest", "dearest"], "why": ["which"], "dearest": ["which"],
    "which": ["holds"], "cheapest": ["holds"], "polynomials": LABELS[:-1],
}


def implied(label):
    """The measure itself, what is listed for it, and what follows."""
    found = {label}
    for other in LISTED.get(label, []):
        if other not in found:
            found |= implied(other) if other != label else set()
    return found


def no_measures():
    return [*[value for value in no_names() if not isinstance(value, Measure)], Numbers(), Why, "why", [Why()], (Why(),)]


class Implies(unittest.TestCase):
    def test_all_pairs(self):
        count = 0
        for first, second in product(TELLING, TELLING):
            told = second.label in implied(first.label)
            self.assertIs(implies(first, second), told, (first.label, second.label))
            count += told
        self.assertEqual(count, 8 + 3 + 5 + 2 + 2 + 1 + 1 + 7)

    def test_what_is_within_is_so_for_what_is_implied(self):
        for one, other in [*pairs()[::4], *random_pairs(51, 100)]:
            inside = {measure.label: within(one, other, measure)[0] == "yes" for measure in TELLING}
            for first, second in product(TELLING, TELLING):
                if implies(first, second) and inside[first.label]:
                    self.assertTrue(inside[second.label])


class Parting(unittest.TestCase):
    def test_each_pair(self):
        for first, second in product(TELLING, TELLING):
            for table, places in product(["a", "x", "abcdefgh", "edge"], [1, 2, 3]):
                found = parting(first, second, table, places)
                if implies(first, second):
                    self.assertIsNone(found)
                    continue
                self.assertEqual([type(found), len(found)], [tuple, 2])
                one, other = found
                self.assertEqual([type(one), type(other)], [Union, Union])
                for query in [*one.queries, *other.queries]:
                    self.assertEqual(query.places, {table: places})
                self.assertEqual([within(*found, first)[0], within(*found, second)[0]], ["yes", "no"])
                self.assertEqual(parting(first, second, table, places), found)
                # The counterexample holds without the checks of the package.
                rows, marks, head = witness_told(one, second, within(one, other, second))
                answers = [answer_told(rows, union, second, marks, head) for union in found]
                self.assertFalse(second.at_most(*answers))


class Telling(unittest.TestCase):
    def test_as_told(self):
        for one, other in [*pairs()[::4], *random_pairs(52, 100)]:
            told = sorted(measure.label for measure in TELLING if within(one, other, measure)[0] != "yes")
            found = telling(one, other)
            self.assertEqual(found, told)
            self.assertIs(type(found), list)

    def test_none_and_all(self):
        one = union_of("x <- a x y, b y")
        self.assertEqual(telling(one, one), [])
        self.assertEqual(telling(one, union_of("x <- c x")), sorted(LABELS[:-1]))
        first = telling(one, one)
        first.append("numbers")
        self.assertEqual(telling(one, one), [])


class Errors(unittest.TestCase):
    def test_unknown_measures(self):
        for value in no_measures():
            for first, second in [(value, Why()), (Why(), value), (value, value)]:
                with self.assertRaises(UnknownMeasure):
                    implies(first, second)
                with self.assertRaises(UnknownMeasure):
                    parting(first, second, "a", 1)

    def test_other_heads_then_other_places(self):
        for one, other, error in [("<- a x y", "x <- a x y", OtherHeads), ("x <- a x", "x y <- a x y", OtherHeads),
                                  ("x <- a x y", "x <- a x", OtherPlaces), ("<- c x", "<- a x\n<- c x y", OtherPlaces)]:
            for first, second in [(one, other), (other, one)]:
                with self.assertRaises(error):
                    telling(union_of(first), union_of(second))

    def test_keywords(self):
        one = union_of("<- a x")
        self.assertIs(implies(second=Which(), first=Why()), True)
        self.assertIsNone(parting(places=1, table="a", second=Which(), first=Why()))
        self.assertEqual(telling(other=one, one=one), [])


class Examples(unittest.TestCase):
    def test_of_the_document(self):
        one = Union.read("<- a x y, a y z")
        self.assertEqual(
            [implies(Bags(), Dearest()), implies(Which(), Why()), telling(one, Union.read("<- a x y"))],
            [True, False, ["bags", "counted", "dearest", "polynomials", "why"]])


if __name__ == "__main__":
    unittest.main()
