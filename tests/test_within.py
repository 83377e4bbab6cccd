import unittest
from itertools import product
from random import Random

from marktables.errors import OtherHeads, OtherPlaces, UnknownMeasure
from marktables.measures import Bags, Cheapest, Counted, Dearest, Holds, Measure, Numbers, Polynomials, Which, Why
from marktables.queries import Query
from marktables.unions import Union
from marktables.within import check_within, witness_rows, within
from told import (
    TELLING, answer_told, counts_told, groupings_told, maps_told, pairs, random_pairs, shape_told, union_of, unions, witness_told,
    wrong_entry_told)
from values import no_names

# For each pair the measures for which the first union is within the second one.
TOLD = [
    ("<- a x", "<- a x", "holds which why bags cheapest dearest counted polynomials"),
    ("<- a x", "<- a x, a x", "holds which why dearest counted"),
    ("<- a x, a x", "<- a x", "holds which why cheapest counted"),
    ("<- a x\n<- a x", "<- a x", "holds which why bags cheapest dearest"),
    ("<- a x", "<- a x\n<- a x", "holds which why bags cheapest dearest counted polynomials"),
    ("<- a x, a y", "<- a x", "holds which cheapest"),
    ("<- a x", "<- a x, a y", "holds which why dearest counted"),
    ("<- a x, a y", "<- a x, a x", "holds which cheapest dearest"),
    ("<- a x, a x", "<- a x, a y", "holds which why bags cheapest dearest counted polynomials"),
    ("x <- a x, a y", "x <- a x", "holds cheapest"),
    ("x <- a x", "x <- a x, a y", "holds which why dearest counted"),
    ("<- a x", "<- b x", ""),
    ("<- a x\n<- b x", "<- b x", ""),
    ("<- b x", "<- a x\n<- b x", "holds which why bags cheapest dearest counted polynomials"),
    ("<- a x y, a y z", "<- a x y", "holds which cheapest"),
    ("<- a x y, a y z", "<- a x y, a x y", "holds which cheapest dearest"),
    ("x <- a x y", "x <- a x y, a x z", "holds which why dearest counted"),
    ("x y <- a x y", "y x <- a x y", ""),
    ("x x <- a x x", "x y <- a x y", "holds which why bags cheapest dearest counted polynomials"),
    ("<- a x, a y, b x", "<- a x, b y", "holds which cheapest"),
    ("<- a x, b y", "<- a x, b x", ""),
    ("<- a x, b x", "<- a x, b y", "holds which why bags cheapest dearest counted polynomials"),
    # Three maps with unequal counts, none of which is enough alone.
    ("<- a x, a y, a z", "<- a x, a x, a y", "holds which cheapest dearest"),
    ("x y <- a x y", "x y <- a x y\nx y <- a x z, a y z", "holds which why bags cheapest dearest counted polynomials"),
]


def query_of(letters, head=""):
    return Query(tuple(head), [("a", (letter,)) for letter in letters])


def some_cases():
    return [*pairs(), *random_pairs(21, 150)]


class Answers(unittest.TestCase):
    def test_told(self):
        for one, other, labels in TOLD:
            one, other = union_of(one), union_of(other)
            found = [measure.label for measure in TELLING if within(one, other, measure)[0] == "yes"]
            self.assertEqual(sorted(found), sorted(labels.split()), (str(one), str(other)))

    def test_papers(self):
        for one, other in some_cases():
            for measure in TELLING:
                answer = within(one, other, measure)
                if answer[0] == "yes":
                    self.assertEqual(len(answer), 2)
                    self.assertIs(type(answer[1]), list)
                    self.assertEqual(len(answer[1]), len(one.queries))
                    self.assertIsNone(wrong_entry_told(one, other, measure.label, answer[1]))

    def test_counterexamples(self):
        for one, other in some_cases():
            for measure in TELLING:
                answer = within(one, other, measure)
                if answer[0] != "yes":
                    self.check_counterexample(one, other, measure, answer)

    def check_counterexample(self, one, other, measure, answer):
        self.assertIs(type(answer), tuple)
        self.assertEqual([answer[0], len(answer)], ["no", 4])
        _, number, grouping, weights = answer
        query = one.queries[number]
        if measure.label in ("counted", "polynomials"):
            self.assertIn(grouping, groupings_told(query))
        else:
            self.assertEqual(grouping, query.variables)
        if measure.label in ("cheapest", "dearest"):
            self.assertEqual(len(weights), len(set(query.atoms)))
            self.assertTrue(all(type(weight) is int and 0 <= weight < 10 ** 100 for weight in weights))
        else:
            self.assertEqual(weights, ())
        rows, marks, head = witness_told(one, measure, answer)
        self.assertEqual(witness_rows(one, measure, answer), (rows, marks, head))
        left = answer_told(rows, one, measure, marks, head)
        self.assertFalse(measure.at_most(left, answer_told(rows, other, measure, marks, head)))

    def test_what_is_within_is_so_on_every_database(self):
        random = Random(22)
        for one, other in some_cases():
            papers = [measure for measure in TELLING if within(one, other, measure)[0] == "yes"]
            for _ in range(3):
                rows = self.some_rows(random, one, other)
                for measure in papers:
                    marks = {row[0]: self.some_mark(random, measure, row[0]) for row in rows}
                    self.check_rows(one, other, measure, rows, marks)

    def some_rows(self, random, one, other):
        """At most five rows with few values."""
        places = sorted({(table, count) for query in [*one.queries, *other.queries]
                         for table, count in query.places.items()})
        facts = set()
        for _ in range(random.randrange(1, 6)):
            table, count = random.choice(places)
            facts.add((table, tuple(random.randrange(3) for _ in range(count))))
        return [(name, *fact) for name, fact in zip("rstuv", sorted(facts))]

    def some_mark(self, random, measure, name):
        if measure.label == "holds":
            return random.random() < 0.7
        if measure.label in ("cheapest", "dearest"):
            return random.choice([None, 0, 1, 2, 5, 30])
        return measure.named(name)

    def check_rows(self, one, other, measure, rows, marks):
        for head in product(range(3), repeat=len(one.queries[0].head)):
            left = answer_told(rows, one, measure, marks, head)
            right = answer_told(rows, other, measure, marks, head)
            self.assertTrue(measure.at_most(left, right), (str(one), str(other), measure.label, rows, marks))

    def test_yes_as_the_document_tells_it(self):
        for one, other in some_cases():
            for label, told in [("holds", self.holds), ("which", self.which), ("why", self.why), ("bags", self.bags)]:
                measure = [each for each in TELLING if each.label == label][0]
                wanted = all(told(query, other, maps_told(query, other)) for query in one.queries)
                self.assertEqual(within(one, other, measure)[0] == "yes", wanted)

    def holds(self, query, other, found):
        return found != []

    def which(self, query, other, found):
        met = [counts_told(query, other, *part) for part in found]
        return all(any(each[k][0] for each in met) for k in range(len(set(query.atoms))))

    def why(self, query, other, found):
        return any(all(many for many, _ in counts_told(query, other, *part)) for part in found)

    def bags(self, query, other, found):
        return any(all(many == own for many, own in counts_told(query, other, *part)) for part in found)

    def test_yes_for_counted_and_polynomials_as_the_document_tells_it(self):
        for one, other in some_cases():
            for measure in [Counted(), Polynomials()]:
                counts = []
                for union in (one, other):
                    # Brute: shapes are compared by all names for the variables.
                    shapes = [self.least(shape_told(query, each, measure.label)) for query in union.queries
                              for each in groupings_told(query)]
                    counts.append({shape: shapes.count(shape) for shape in shapes})
                wanted = all(counts[1].get(shape, 0) >= many for shape, many in counts[0].items())
                self.assertEqual(within(one, other, measure)[0] == "yes", wanted)

    def least(self, query):
        """The text of a shape that is the same for all names of variables."""
        from marktables.queries import normal
        return str(normal(query))

    def test_each_is_within_itself_and_more(self):
        for group in unions():
            for union in group:
                for measure in TELLING:
                    self.assertEqual(within(union, union, measure)[0], "yes")
                    for query in union.queries:
                        self.assertEqual(within(Union(query), union, measure)[0], "yes")

    def test_names_of_variables_and_the_order_mean_nothing(self):
        random = Random(23)
        for one, other in random_pairs(24, 40):
            renamed = []
            for query in one.queries:
                names = random.sample(["k", "zz", "a", "m", "row", "abcdefgh"], len(query.variables))
                renamed.append(query.image(tuple(names)))
            for measure in TELLING:
                self.assertEqual(within(Union(*renamed), other, measure)[0], within(one, other, measure)[0])
                self.assertEqual(within(other, Union(*renamed), measure)[0], within(other, one, measure)[0])
                self.assertEqual(within(Union(*renamed), one, measure)[0], "yes")


class Papers(unittest.TestCase):
    def test_which_has_at_most_as_many_maps_as_atoms(self):
        for one, other in some_cases():
            answer = within(one, other, Which())
            if answer[0] == "yes":
                for query, entry in zip(one.queries, answer[1]):
                    self.assertLessEqual(len(entry), len(set(query.atoms)))

    def test_mixtures_have_at_most_one_tuple_more(self):
        for one, other in [*some_cases(), *wide_pairs()]:
            for measure in [Cheapest(), Dearest()]:
                answer = within(one, other, measure)
                if answer[0] == "yes":
                    for query, entry in zip(one.queries, answer[1]):
                        self.assertLessEqual(len(entry), len(set(query.atoms)) + 1)
                        self.assertLess(max(times for _, _, times in entry), 10 ** 100)

    def test_mixtures_of_several_maps_with_unequal_times(self):
        # Two atoms go to x, one to y and z; the times make up for it.
        one, other = Union(query_of("xxxyz")), Union(query_of("xxyyz"), query_of("xyyyy"), query_of("xxxxx"))
        for measure in [Cheapest(), Dearest()]:
            answer = within(one, other, measure)
            self.assertEqual(answer[0], "yes")
            self.assertIsNone(wrong_entry_told(one, other, measure.label, answer[1]))
        one, other = Union(query_of("xxxyy")), Union(query_of("xxxxx"))
        for measure in [Cheapest(), Dearest()]:
            self.assertEqual(
                sorted(within(one, other, measure)[1][0]), [(0, ("x",), 3), (0, ("y",), 2)])

    def test_weights_that_no_single_atom_gives(self):
        # Each map is good at one atom and bad at the other one.
        one, other = Union(query_of("xxyy", "xy")), Union(query_of("xxxy", "xy"), query_of("xyyyy", "xy"))
        for measure, wanted in [(Cheapest(), "no"), (Dearest(), "yes")]:
            answer = within(one, other, measure)
            self.assertEqual(answer[0], wanted)
            self.assertIsNone(check_within(one, other, measure, answer))

    def test_no_map_at_all(self):
        one, other = union_of("<- a x, b x"), union_of("<- b x, c x")
        self.assertEqual(within(one, other, Dearest())[:3], ("no", 0, ("x",)))
        self.assertEqual(within(one, other, Cheapest())[:3], ("no", 0, ("x",)))
        for measure in TELLING:
            self.assertIsNone(check_within(one, other, measure, within(one, other, measure)))

    def test_the_query_of_the_counterexample(self):
        one, other = union_of("<- a x\n<- a x, a x\n<- b x"), union_of("<- a x\n<- a x, a x\n<- a x, b x")
        for measure in TELLING:
            self.assertEqual(within(one, other, measure)[:2], ("no", 2))

    def test_a_query_twice(self):
        one, other = union_of("<- a x\n<- a x"), union_of("<- a x, a y\n<- a x\n<- b x")
        found = within(one, other, Counted())
        self.assertEqual(found[0], "yes")
        self.assertEqual([[part[0] for part in entry] for entry in found[1]], [[("x",)], [("x",)]])
        self.assertEqual(len({part[1:3] for entry in found[1] for part in entry}), 2)
        found = within(one, union_of("<- a x"), Polynomials())
        self.assertEqual(found[:1] + found[2:], ("no", ("x",), ()))

    def test_a_grouping_that_has_no_partner(self):
        found = within(union_of("<- a x, a y"), union_of("<- a x, a y, b z\n<- a x, a x"), Polynomials())
        self.assertEqual(found, ("no", 0, ("x", "y"), ()))
        found = within(union_of("<- a x, a y"), union_of("<- a x, a x"), Polynomials())
        self.assertEqual(found, ("no", 0, ("x", "y"), ()))

    def test_each_partner_once_in_the_whole_paper(self):
        for one, other in some_cases():
            for measure in [Counted(), Polynomials()]:
                answer = within(one, other, measure)
                if answer[0] == "yes":
                    partners = [part[1:3] for entry in answer[1] for part in entry]
                    self.assertEqual(len(set(partners)), len(partners))


def wide_pairs():
    """Unions of up to three queries with five variables and six atoms."""
    path = Query.read("<- a u v, a v x, a x y, a y z, a z u")
    return [
        (Union(query_of("uvxyzz"), query_of("uvxyz")), Union(query_of("uuvvxy"), query_of("uvxyzz"))),
        (Union(query_of("uvxyzz")), Union(query_of("uuvvxx"), query_of("uuuvvv"), query_of("uuuuuu"))),
        (Union(query_of("uuuvvx")), Union(query_of("uuuuvv"), query_of("uvvvvv"), query_of("uuuuuv"))),
        (Union(path), Union(path, path)),
    ]


class Witnesses(unittest.TestCase):
    def test_of_every_measure(self):
        one = union_of("y x <- b y x, b z y, c z")
        answer = ("no", 0, ("x", "y", "z"), ())
        rows = [("ra", "b", (1, 0)), ("rb", "b", (2, 1)), ("rc", "c", (2,))]
        for measure, marks in [
                (Holds(), [True] * 3), (Which(), [("ra",), ("rb",), ("rc",)]),
                (Why(), [(("ra",),), (("rb",),), (("rc",),)]), (Bags(), [(("ra",),), (("rb",),), (("rc",),)]),
                (Counted(), [((("ra",), 1),), ((("rb",), 1),), ((("rc",), 1),)]),
                (Polynomials(), [((("ra",), 1),), ((("rb",), 1),), ((("rc",), 1),)])]:
            found = witness_rows(one, measure, answer)
            self.assertEqual(found, (rows, dict(zip(["ra", "rb", "rc"], marks)), (1, 0)))
            self.assertEqual(list(found[1]), ["ra", "rb", "rc"])
            self.assertEqual([type(part) for part in found], [list, dict, tuple])
        for measure in [Cheapest(), Dearest()]:
            found = witness_rows(one, measure, ("no", 0, ("x", "y", "z"), (0, 10 ** 99, 3)))
            self.assertEqual(found, (rows, {"ra": 0, "rb": 10 ** 99, "rc": 3}, (1, 0)))

    def test_grouped_queries(self):
        one = union_of("z x <- a x y, a x z")
        found = witness_rows(one, Polynomials(), ("no", 0, ("x", "y", "x"), ()))
        self.assertEqual(found[0], [("ra", "a", (0, 0)), ("rb", "a", (0, 1))])
        self.assertEqual(found[2], (0, 0))
        found = witness_rows(one, Counted(), ("no", 0, ("x", "y", "y"), ()))
        self.assertEqual(found, ([("ra", "a", (0, 1))], {"ra": ((("ra",), 1),)}, (1, 0)))

    def test_six_rows_and_repeated_atoms(self):
        one = Union(query_of("uvxyzz", "z"), query_of("zzzzzz", "z"))
        number = [len(set(query.atoms)) for query in one.queries].index(5)
        rows, marks, head = witness_rows(one, Cheapest(), ("no", number, tuple("uvxyz"), (1, 2, 3, 4, 5)))
        self.assertEqual(rows, [(name, "a", (k,)) for k, name in enumerate(["ra", "rb", "rc", "rd", "re"])])
        self.assertEqual([list(marks.values()), head], [[1, 2, 3, 4, 5], (4,)])
        one = union_of("<- a x y, a y x, b x, b y, c x, c y")
        rows, _, head = witness_rows(one, Why(), ("no", 0, ("x", "y"), ()))
        self.assertEqual([row[0] for row in rows], ["ra", "rb", "rc", "rd", "re", "rf"])
        self.assertEqual(rows[0], ("ra", "a", (0, 1)))
        self.assertEqual(head, ())

    def test_keywords_and_new_objects(self):
        one = union_of("x <- a x y")
        answer = ("no", 0, ("x", "y"), ())
        first = witness_rows(answer=answer, measure=Why(), one=one)
        first[0].clear()
        first[1].clear()
        self.assertEqual(witness_rows(one, Why(), answer), ([("ra", "a", (0, 1))], {"ra": (("ra",),)}, (0,)))


class Arguments(unittest.TestCase):
    def test_equal_answers_and_new_lists(self):
        for one, other in pairs()[::7]:
            for measure in TELLING:
                first = within(one, other, measure)
                again = within(one, other, measure)
                self.assertEqual(first, again)
                if first[0] == "yes":
                    lists = [first[1], *[entry for entry in first[1] if isinstance(entry, list)]]
                    more = [again[1], *[entry for entry in again[1] if isinstance(entry, list)]]
                    self.assertEqual(len({id(each) for each in [*lists, *more]}), len(lists) + len(more))
                    for each in lists:
                        each.clear()
                    self.assertEqual(within(one, other, measure), again)

    def test_keywords(self):
        one, other = union_of("<- a x"), union_of("<- a y")
        self.assertEqual(within(measure=Holds(), other=other, one=one), ("yes", [(0, ("x",))]))
        self.assertIsNone(check_within(answer=("yes", [(0, ("x",))]), measure=Why(), other=other, one=one))


class Errors(unittest.TestCase):
    def calls(self, one, other, measure):
        return [lambda: within(one, other, measure), lambda: check_within(one, other, measure, None),
                lambda: check_within(one, other, measure, ("yes", []))]

    def test_unknown_measures(self):
        one = union_of("<- a x")
        measures = [value for value in no_names() if not isinstance(value, Measure)]
        for value in [Numbers(), *measures, "why", Why, [Why()], (Why(),), "numbers"]:
            for call in self.calls(one, one, value):
                with self.assertRaises(UnknownMeasure):
                    call()

    def test_other_heads_then_other_places_come_first(self):
        cases = [
            ("<- a x y", "x <- a x y", OtherHeads), ("x <- a x y", "x <- a x", OtherPlaces),
            ("x <- a x", "x y <- a x y", OtherHeads), ("x <- a x\nx <- b x", "x <- c x\nx <- b x x", OtherPlaces),
            ("<- c x", "<- a x\n<- c x y", OtherPlaces),
        ]
        for one, other, error in cases:
            one, other = union_of(one), union_of(other)
            for first, second in [(one, other), (other, one)]:
                for measure in [*TELLING, Numbers(), None, "why"]:
                    for call in self.calls(first, second, measure):
                        with self.assertRaises(error):
                            call()


class Examples(unittest.TestCase):
    def test_of_the_document(self):
        one = union_of("<- a x y, a y z")
        other = union_of("<- a x y, a x y")
        mixture = [(0, ("x", "y"), 1), (0, ("y", "z"), 1)]
        self.assertEqual(
            [within(one, other, Cheapest())[0], check_within(one, other, Cheapest(), ("yes", [mixture])),
             within(one, other, Why())],
            ["yes", None, ("no", 0, ("x", "y", "z"), ())])
        one = union_of("x <- a x y, a y z")
        self.assertEqual(
            witness_rows(one, Dearest(), ("no", 0, ("x", "y", "z"), (0, 4))),
            ([("ra", "a", (0, 1)), ("rb", "a", (1, 2))], {"ra": 0, "rb": 4}, (0,)))


if __name__ == "__main__":
    unittest.main()
