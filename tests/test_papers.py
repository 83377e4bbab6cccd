import unittest
from copy import deepcopy
from itertools import product
from random import Random

from marktables.errors import NotImplied, UnknownMeasure
from marktables.measures import Bags, Cheapest, Counted, Dearest, Holds, Numbers, Polynomials, Which, Why
from marktables.order import implies
from marktables.papers import carried, converted, joined_papers
from marktables.queries import Query
from marktables.tables import Tables, ways
from marktables.unions import Union
from marktables.within import check_within, within
from test_check_within import right_answers
from test_order import no_measures
from told import TELLING, moved, pairs, random_pairs, union_of, unions, wrong_entry_told

BIG = 10 ** 101 + 9


def cases(seed):
    """Tuples of two unions, a measure, and papers: the one of within, and another one."""
    random = Random(seed)
    for one, other in [*pairs()[::6], *random_pairs(seed, 80, "wxyz", 3)]:
        for measure in TELLING:
            answer = within(one, other, measure)
            if answer[0] == "yes":
                yield one, other, measure, answer[1]
                if measure.label not in ("counted", "polynomials"):
                    yield one, other, measure, right_answers(random, one, other, measure)[1]


def databases(random, one, other, count):
    places = sorted({(table, many) for query in [*one.queries, *other.queries] for table, many in query.places.items()})
    for _ in range(count):
        facts = set()
        for _ in range(random.randrange(1, 6)):
            table, many = random.choice(places)
            facts.add((table, tuple(random.choice([-5, 3, 10 ** 9]) for _ in range(many))))
        yield Tables([(name, *fact) for name, fact in zip("rstuv", sorted(facts))])


def used(query, way):
    """The used rows, one for each atom, in ascending order."""
    return sorted(moved(query, way)[1])


def copied(entry):
    return list(entry) if isinstance(entry, list) else entry


def lists_in(paper):
    return [paper, *[entry for entry in paper if isinstance(entry, list)]]


class Carried(unittest.TestCase):
    def test_ways_with_the_same_answer_row(self):
        random = Random(61)
        for one, other, measure, paper in cases(62):
            kept = deepcopy(paper)
            for tables in databases(random, one, other, 2):
                for number, query in enumerate(one.queries):
                    for way in ways(tables, query):
                        found = carried(one, measure, paper, number, way)
                        self.check(tables, query, way, other, found)
                        self.check_rows(random, query, way, other, measure, found)
                        self.assertEqual(found, self.told(query, measure, paper[number], way))
            self.assertEqual(paper, kept)

    def check(self, tables, query, way, other, found):
        self.assertIs(type(found), list)
        for part in found:
            self.assertEqual([type(part), len(part), type(part[1])], [tuple, 2, tuple])
            j, value = part
            source = other.queries[j]
            self.assertEqual(moved(source, value)[0], moved(query, way)[0])
            rows = [row[1:] for row in tables.rows]
            self.assertTrue(all(atom in rows for atom in moved(source, value)[1]))

    def check_rows(self, random, query, way, other, measure, found):
        given = used(query, way)
        rows = [used(other.queries[j], value) for j, value in found]
        if measure.label == "which":
            self.assertEqual({row for each in rows for row in each}, set(given))
        if measure.label in ("why", "counted"):
            self.assertEqual(set(rows[0]), set(given))
        if measure.label in ("bags", "polynomials"):
            self.assertEqual(rows[0], given)
        if measure.label in ("cheapest", "dearest"):
            for _ in range(5):
                costs = {row: random.choice([0, 1, 2, 50]) for row in given}
                total = sum(costs[row] for row in given)
                # Rows that the given way does not use are used by none of the best ways, as they may cost much.
                sums = [sum(costs.get(row, 0) for row in each) for each in rows]
                self.assertTrue(min(sums) <= total if measure.label == "cheapest" else max(sums) >= total)

    def told(self, query, measure, entry, way):
        values = dict(zip(query.variables, way))
        if measure.label in ("counted", "polynomials"):
            grouping = tuple(query.variables[way.index(value)] for value in way)
            (_, j, partner, names), = [part for part in entry if part[0] == grouping]
            order = sorted(set(partner))
            return [(j, tuple(values[names[order.index(name)]] for name in partner))]
        moves = [entry] if isinstance(entry, tuple) else entry
        return [(part[0], tuple(values[name] for name in part[1])) for part in moves]

    def test_different_ways_give_different_ones_for_those_that_count(self):
        random = Random(63)
        for one, other, measure, paper in cases(64):
            if measure.label in ("counted", "polynomials"):
                for tables in databases(random, one, other, 2):
                    found = [tuple(carried(one, measure, paper, number, way))
                             for number, query in enumerate(one.queries) for way in ways(tables, query)]
                    self.assertEqual(len(set(found)), len(found))

    def test_the_same_order_and_equal_ones(self):
        one = union_of("<- a x, a y")
        entry = [(0, ("y",)), (1, ("x",)), (1, ("y",)), (0, ("x",))]
        self.assertEqual(carried(one, Which(), [entry], 0, (4, 4)), [(0, (4,)), (1, (4,)), (1, (4,)), (0, (4,))])
        self.assertEqual(carried(one, Which(), [entry], 0, (4, 5)), [(0, (5,)), (1, (4,)), (1, (5,)), (0, (4,))])
        timed = [(*part, BIG + k) for k, part in enumerate(entry)]
        for measure in [Cheapest(), Dearest()]:
            self.assertEqual(carried(one, measure, [timed], 0, (4, 4)), [(0, (4,)), (1, (4,)), (1, (4,)), (0, (4,))])

    def test_pairings_by_equal_values(self):
        one, other = union_of("x <- a x y, a z y"), union_of("y <- a y x, a z x")
        for measure in [Counted(), Polynomials()]:
            paper = within(one, other, measure)[1]
            for way in [(7, 8, 9), (7, 7, 9), (7, 8, 7), (9, 8, 8), (5, 5, 5)]:
                (j, found), = carried(one, measure, paper, 0, way)
                self.assertEqual(moved(other.queries[j], found)[0], (way[0],))
                self.assertEqual(set(used(other.queries[j], found)), set(used(one.queries[0], way)))

    def test_new_lists(self):
        one = union_of("<- a x")
        for measure, entry in [(Holds(), (0, ("x",))), (Which(), [(0, ("x",))]), (Cheapest(), [(0, ("x",), 1)])]:
            paper = [entry]
            first = carried(one, measure, paper, 0, (1,))
            first.append(None)
            self.assertEqual(carried(one, measure, paper, 0, (1,)), [(0, (1,))])


def implied_pairs():
    return [(first, second) for first, second in product(TELLING, TELLING) if implies(first, second)]


class Converted(unittest.TestCase):
    def test_each_pair(self):
        for one, other, first, paper in cases(65):
            kept = deepcopy(paper)
            for second in [second for each, second in implied_pairs() if each == first]:
                made = converted(first, second, paper)
                self.assertIsNone(wrong_entry_told(one, other, second.label, made))
                self.assertIsNone(check_within(one, other, second, ("yes", made)))
                self.assertEqual(converted(first, second, paper), made)
                self.assertFalse({id(each) for each in lists_in(made)} & {id(each) for each in lists_in(paper)})
                if first == second:
                    self.assertEqual(made, paper)
                for each in lists_in(made):
                    each.clear()
                self.assertEqual(paper, kept)

    def test_told(self):
        mapped = (1, ("x", "y"))
        whole = [[(("x", "x"), 1, ("x", "x"), ("x",)), (("x", "y"), 0, ("u", "v"), ("y", "x"))]]
        for first, second, paper, told in [
                (Why(), Why(), [mapped], [mapped]), (Why(), Which(), [mapped], [[mapped]]),
                (Why(), Holds(), [mapped, mapped], [mapped, mapped]), (Bags(), Why(), [mapped], [mapped]),
                (Bags(), Dearest(), [mapped], [[(*mapped, 1)]]), (Bags(), Cheapest(), [mapped], [[(*mapped, 1)]]),
                (Which(), Which(), [[mapped, (0, ("x",))]], [[mapped, (0, ("x",))]]),
                (Dearest(), Which(), [[(*mapped, BIG), (0, ("x",), 3)]], [[mapped, (0, ("x",))]]),
                (Dearest(), Dearest(), [[(*mapped, BIG)]], [[(*mapped, BIG)]]),
                (Polynomials(), Counted(), whole, whole), (Counted(), Counted(), whole, whole),
                (Polynomials(), Bags(), whole, [(0, ("y", "x"))]), (Counted(), Why(), whole, [(0, ("y", "x"))]),
                (Polynomials(), Cheapest(), whole, [[(0, ("y", "x"), 1)]]),
                (Polynomials(), Which(), whole, [[(0, ("y", "x"))]]), (Counted(), Holds(), whole, [(0, ("y", "x"))])]:
            self.assertEqual(converted(first, second, paper), told)

    def test_holds_from_any_map(self):
        entry = [(0, ("x",)), (1, ("y",))]
        self.assertIn(converted(Which(), Holds(), [entry])[0], entry)
        timed = [(*part, 7) for part in entry]
        for measure in [Cheapest(), Dearest()]:
            self.assertIn(converted(measure, Holds(), [timed])[0], entry)

    def test_great_times_and_another_order(self):
        random = Random(66)
        for one, other, first, paper in cases(67):
            if first.label in ("cheapest", "dearest"):
                many = random.choice([10 ** 40, 3, 7])
                paper = [[(*part[:2], part[2] * many) for part in entry] for entry in paper]
            if first.label in ("which", "cheapest", "dearest"):
                paper = [random.sample(entry, len(entry)) for entry in paper]
                for second in [second for each, second in implied_pairs() if each == first]:
                    self.assertIsNone(check_within(one, other, second, ("yes", converted(first, second, paper))))

    def test_not_implied(self):
        for first, second in product(TELLING, TELLING):
            if not implies(first, second):
                with self.assertRaises(NotImplied):
                    converted(first, second, [])


def triples():
    """Tuples of three unions, each within the next one for some measures."""
    random = Random(68)
    for group in unions():
        for _ in range(120):
            yield random.choices(group, k=3)
    for one, other in random_pairs(69, 60, "xyz", 3):
        yield [one, other, other]
        if len(one) + len(other) <= 3:
            yield [one, one | other, other | one]
        yield [Union(one.queries[0]), one, Union(*one.queries[:2], one.queries[0])]


class Joined(unittest.TestCase):
    def test_each_measure(self):
        random = Random(70)
        tried = {measure.label: 0 for measure in TELLING}
        for one, middle, other in triples():
            for measure in TELLING:
                left, right = within(one, middle, measure), within(middle, other, measure)
                if left[0] == right[0] == "yes":
                    tried[measure.label] += 1
                    first, second = self.papers(random, measure, left[1], right[1], (one, middle, other))
                    self.check(one, middle, other, measure, first, second)
        self.assertGreater(min(tried.values()), 50)

    def papers(self, random, measure, first, second, three):
        if measure.label not in ("counted", "polynomials") and random.random() < 0.5:
            first = right_answers(random, three[0], three[1], measure)[1]
            second = right_answers(random, three[1], three[2], measure)[1]
        if measure.label in ("cheapest", "dearest"):
            # Unlike sums of times in the entries.
            first, second = [[[(*part[:2], part[2] * many) for part in entry] for entry, many in zip(
                paper, random.choices([1, 2, 3, 10, 10 ** 40], k=3))] for paper in (first, second)]
        return first, second

    def check(self, one, middle, other, measure, first, second):
        kept = deepcopy([first, second])
        made = joined_papers(one, middle, other, measure, first, second)
        self.assertIsNone(wrong_entry_told(one, other, measure.label, made))
        self.assertIsNone(check_within(one, other, measure, ("yes", made)))
        self.assertEqual(joined_papers(one, middle, other, measure, first, second), made)
        ids = {id(each) for paper in (first, second) for each in lists_in(paper)}
        self.assertFalse({id(each) for each in lists_in(made)} & ids)
        for each in lists_in(made):
            each.clear()
        self.assertEqual([first, second], kept)

    def test_what_comes_out_twice_stands_once(self):
        one, middle, other = union_of("<- a x, a y"), union_of("<- a x\n<- a x, a y"), union_of("<- a x")
        j = [len(query.variables) for query in middle.queries].index(1)
        first = [[(j, ("x",)), (1 - j, ("x", "y")), (j, ("y",))]]
        second = [None, None]
        second[j], second[1 - j] = [(0, ("x",))], [(0, ("y",)), (0, ("x",))]
        found = joined_papers(one, middle, other, Which(), first, second)
        self.assertEqual([type(found[0]), sorted(found[0])], [list, [(0, ("x",)), (0, ("y",))]])
        first = [[(j, ("x",), 1), (1 - j, ("x", "y"), 2), (j, ("y",), 4)]]
        second[j], second[1 - j] = [(0, ("x",), 5)], [(0, ("y",), 1), (0, ("x",), 2)]
        found = dict((part[:2], part[2]) for part in joined_papers(one, middle, other, Cheapest(), first, second)[0])
        # With the common sum 15: 15 and 60 times over the one query, 2 * 5 * (1, 2) over the other one.
        self.assertEqual(sorted(found), [(0, ("x",)), (0, ("y",))])
        self.assertEqual(found[(0, ("x",))] * (60 + 10), found[(0, ("y",))] * (15 + 20))

    def test_single_maps_are_put_one_after_the_other(self):
        one, middle, other = union_of("u v <- a u v"), union_of("x y <- a x y\nx y <- a x z, a x y"), union_of(
            "p q <- a p q, a p r")
        j = [len(query.atoms) for query in middle.queries].index(2)
        second = [(0, ("x", "y", "y"))] * 2
        second[j] = (0, ("x", "y", "z"))
        for measure in [Why(), Holds()]:
            first = [(j, ("u", "v", "v"))]
            self.assertEqual(joined_papers(one, middle, other, measure, first, second), [(0, ("u", "v", "v"))])

    def test_great_papers(self):
        atoms = [("a", (name,)) for name in "vwxyz"]
        one = Union(Query((), atoms))
        values = [value for value in product("vwxyz", repeat=5)]
        middle = other = one
        spread = [value for value in values if len(set(value)) == 1][:5] + values[1000:1095]
        first = [[(0, value) for value in spread]]
        self.assertIsNone(check_within(one, middle, Which(), ("yes", first)))
        found = joined_papers(one, middle, other, Which(), first, first)
        self.assertIsNone(check_within(one, other, Which(), ("yes", found)))
        rotations = [tuple("vwxyz"[k:] + "vwxyz"[:k]) for k in range(5)]
        timed = [[(0, value, 10 ** 101 + k) for k, value in enumerate(rotations)]]
        for measure in [Cheapest(), Dearest()]:
            self.assertIsNone(check_within(one, middle, measure, ("yes", timed)))
            found = joined_papers(one, middle, other, measure, timed, timed)
            self.assertIsNone(check_within(one, other, measure, ("yes", found)))
            self.assertEqual(len(found[0]), 5)


class Errors(unittest.TestCase):
    def test_unknown_measures(self):
        one = union_of("<- a x")
        for value in no_measures():
            with self.assertRaises(UnknownMeasure):
                carried(one, value, [(0, ("x",))], 0, (1,))
            with self.assertRaises(UnknownMeasure):
                joined_papers(one, one, one, value, [(0, ("x",))], [(0, ("x",))])
            for first, second in [(value, Why()), (Holds(), value), (value, value)]:
                with self.assertRaises(UnknownMeasure):
                    converted(first, second, [(0, ("x",))])
        self.assertIn(Numbers(), no_measures())

    def test_keywords(self):
        one = union_of("<- a x")
        paper = [(0, ("x",))]
        self.assertEqual(carried(way=(1,), number=0, paper=paper, measure=Why(), one=one), [(0, (1,))])
        self.assertEqual(converted(paper=paper, second=Holds(), first=Why()), paper)
        self.assertEqual(joined_papers(
            second=paper, first=paper, measure=Why(), other=one, middle=one, one=one), paper)


class Examples(unittest.TestCase):
    def test_of_the_document(self):
        one = Union.read("x <- a x y")
        paper = [(0, ("x", "y", "y"))]
        self.assertEqual(
            [converted(Why(), Why(), paper), carried(one, Why(), paper, 0, (7, 8)),
             converted(Bags(), Cheapest(), [(0, ("x", "y"))])],
            [[(0, ("x", "y", "y"))], [(0, (7, 8, 8))], [[(0, ("x", "y"), 1)]]])


if __name__ == "__main__":
    unittest.main()
