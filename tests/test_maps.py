import unittest
from inspect import isgenerator
from itertools import product

from marktables.errors import InvalidKind, InvalidMap, OtherHeads, OtherPlaces
from marktables.maps import composed, counts, first_map, kind, map_error, maps
from marktables.queries import Query
from values import no_names

# Queries in groups with heads of one length and tables of the same numbers of places.
GROUPS = [
    [
        "<- a x y", "<- a x x", "<- a x y, a y z", "<- a x y, a y x", "<- a x y, a x y", "<- a x x, a x y, a y x",
        "<- a x y, a y z, a z x", "<- a v w, a w x, a x y, a y z", "<- a x y, b y", "<- b x", "<- a x x, b x",
        "<- a u v, a v u, b u, b u, b v", "<- b u, b v, b x, b y, b z", "<- a x y, a x y, a y x",
    ],
    [
        "x <- edge x y", "x <- edge y x", "x <- edge x y, edge z y", "u <- edge u v", "x <- edge x x",
        "x <- edge x y, edge x z", "y <- edge x y, edge y z", "z <- edge x x, edge x z", "x <- one x",
        "x <- edge x y, one x, one y", "x <- edge x y, edge x y, edge x z",
    ],
    [
        "x y <- t x y z", "x x <- t x x y", "y x <- t x y y", "x y <- t x y y, t y x x", "x x <- t x x x",
        "z y <- t x y z, t z y x", "x y <- t x y x, t x y y",
    ],
]


def groups():
    return [[Query.read(text) for text in texts] for texts in GROUPS]


def pairs():
    return [(source, goal) for queries in groups() for source in queries for goal in queries]


def is_map(source, goal, value):
    new = dict(zip(source.variables, value))
    atoms = [(table, tuple(new[name] for name in names)) for table, names in source.atoms]
    return tuple(new[name] for name in source.head) == goal.head and all(atom in goal.atoms for atom in atoms)


def all_maps(source, goal):
    """The maps in ascending order, found among all tuples."""
    values = product(goal.variables, repeat=len(source.variables))
    return [value for value in values if is_map(source, goal, value)]


def counts_told(source, goal, value):
    atoms = source.image(value).atoms
    return tuple(atoms.count(atom) for atom in sorted(set(goal.atoms)))


def kind_told(source, goal, value):
    if source.image(value) == goal:
        return "exact"
    return "onto" if set(source.image(value).atoms) == set(goal.atoms) else "into"


class Maps(unittest.TestCase):
    def test_all_maps_in_ascending_order(self):
        none = several = 0
        for source, goal in pairs():
            found = list(maps(source, goal))
            self.assertEqual(found, all_maps(source, goal))
            self.assertTrue(all(type(value) is tuple for value in found))
            none += not found
            several += len(found) > 1
        self.assertGreater(none, 50)
        self.assertGreater(several, 50)

    def test_told(self):
        path, star = Query.read("<- a x y, a y z"), Query.read("<- a p q, a q p, a q q")
        self.assertEqual(
            list(maps(path, star)),
            [("p", "q", "p"), ("p", "q", "q"), ("q", "p", "q"), ("q", "q", "p"), ("q", "q", "q")])
        self.assertEqual(list(maps(star, path)), [])
        self.assertEqual(list(maps(Query.read("x <- a x y"), Query.read("y <- a x y"))), [])
        self.assertEqual(list(maps(Query.read("<- a x"), Query.read("<- b x"))), [])

    def test_variables_of_a_head_that_must_become_two(self):
        self.assertEqual(list(maps(Query.read("x x <- a x x"), Query.read("x y <- a x x, a x y"))), [])
        self.assertEqual(list(maps(Query.read("x y <- a x y"), Query.read("u u <- a u u, a u v"))), [("u", "u")])

    def test_a_generator_that_does_not_wait_for_all(self):
        source = Query((), [("a", (name,)) for name in "uvxyz"])
        found = maps(source, source)
        self.assertTrue(isgenerator(found))
        self.assertEqual(next(found), ("u", "u", "u", "u", "u"))
        self.assertEqual(next(found), ("u", "u", "u", "u", "v"))
        self.assertEqual(sum(1 for _ in found), 5 ** 5 - 2)

    def test_two_generators_at_a_time(self):
        source, goal = Query.read("<- a x, a y"), Query.read("<- a p, a q")
        together = list(zip(maps(source, goal), maps(source, goal)))
        self.assertEqual(together, [(value, value) for value in all_maps(source, goal)])


class Reasons(unittest.TestCase):
    def setUp(self):
        self.source = Query.read("x <- a x y, a y y, b x")
        self.goal = Query.read("p <- a p q, a q q, b p, b q")

    def test_maps_have_none(self):
        self.assertIsNone(map_error(self.source, self.goal, ("p", "q")))
        for source, goal in pairs():
            right = all_maps(source, goal)
            for value in product(goal.variables, repeat=len(source.variables)):
                self.assertEqual(map_error(source, goal, value) is None, value in right)

    def test_map(self):
        wrong = [
            *no_names(), "pq", ["p", "q"], {"p": "q"}, {"p": 1, "q": 2}, ("p",), ("p", "q", "q"), ("p", "x"),
            ("x", "y"), ("p", None), (None, "p"), ("p", ("q",)), ("p", ["q"]), ("p", ""), ("a", "p"),
            (True, "p"), ("p", 0),
        ]
        for value in wrong:
            self.assertEqual(map_error(self.source, self.goal, value), ("map",))
        for value in no_names():
            self.assertEqual(map_error(self.source, self.goal, ("p", value)), ("map",))
            self.assertEqual(map_error(self.source, self.goal, (value, "p")), ("map",))

    def test_head(self):
        for value in [("q", "q"), ("q", "p")]:
            self.assertEqual(map_error(self.source, self.goal, value), ("head",))
        double = Query.read("x x <- a x x")
        self.assertEqual(map_error(double, Query.read("x y <- a x y"), ("x",)), ("head",))
        self.assertEqual(map_error(double, Query.read("y x <- a x y"), ("x",)), ("head",))

    def test_atom(self):
        # The atoms of the source are a x y, a y y, b x.
        self.assertEqual(map_error(self.source, self.goal, ("p", "p")), ("atom", 0))
        goal = Query.read("p <- a p p, a p q, b p, b q")
        self.assertEqual(map_error(self.source, goal, ("p", "q")), ("atom", 1))
        goal = Query.read("p <- a p q, a q q, b q")
        self.assertEqual(map_error(self.source, goal, ("p", "q")), ("atom", 2))
        goal = Query.read("p <- a p q, a q q")
        self.assertEqual(map_error(self.source, goal, ("p", "q")), ("atom", 2))
        twice = Query.read("<- a x, a x, a y")
        self.assertEqual(map_error(twice, Query.read("<- a x, b y"), ("x", "y")), ("atom", 2))

    def test_the_reasons_are_plain_tuples(self):
        for value in [None, ("q", "q"), ("p", "p")]:
            self.assertIs(type(map_error(self.source, self.goal, value)), tuple)


class CountsAndKinds(unittest.TestCase):
    def test_of_all_maps(self):
        found = []
        for source, goal in pairs():
            for value in all_maps(source, goal):
                self.assertEqual(counts(source, goal, value), counts_told(source, goal, value))
                self.assertIs(type(counts(source, goal, value)), tuple)
                self.assertEqual(kind(source, goal, value), kind_told(source, goal, value))
                found.append(kind(source, goal, value))
        for word in ["into", "onto", "exact"]:
            self.assertGreater(found.count(word), 20)

    def test_counts_told(self):
        source = Query.read("<- a x y, a x y, a y x, b x")
        goal = Query.read("<- a p p, a p q, a q p, b p, b q, c p")
        self.assertEqual(counts(source, goal, ("p", "q")), (0, 2, 1, 1, 0, 0))
        self.assertEqual(counts(source, goal, ("q", "p")), (0, 1, 2, 0, 1, 0))
        self.assertEqual(counts(source, goal, ("p", "p")), (3, 0, 0, 1, 0, 0))

    def test_an_atom_that_stands_repeatedly_in_the_goal_has_one_count(self):
        goal = Query.read("<- a x, a x")
        self.assertEqual(counts(Query.read("<- a x, a y, a z"), goal, ("x", "x", "x")), (3,))

    def test_kinds_told(self):
        once, twice, thrice = [Query((), [("a", ("x",))] * count) for count in (1, 2, 3)]
        self.assertEqual(kind(once, once, ("x",)), "exact")
        self.assertEqual(kind(twice, twice, ("x",)), "exact")
        self.assertEqual(kind(once, twice, ("x",)), "onto")
        self.assertEqual(kind(thrice, twice, ("x",)), "onto")
        self.assertEqual(kind(once, Query.read("<- a x, a y"), ("y",)), "into")
        # As many atoms as the goal has, but not each as often.
        uneven = Query.read("<- a x, a x, a y")
        self.assertEqual(kind(uneven, uneven, ("y", "x")), "onto")
        self.assertEqual(kind(uneven, uneven, ("y", "y")), "into")

    def test_what_is_no_map(self):
        source, goal = Query.read("x <- a x y"), Query.read("x <- a x y, b y")
        for value in [*no_names(), ("x",), ["x", "y"], ("y", "x"), ("x", "x"), ("x", "z"), ("x", "y", "y"), "xy"]:
            with self.assertRaises(InvalidMap):
                counts(source, goal, value)
            with self.assertRaises(InvalidMap):
                kind(source, goal, value)


class FirstMaps(unittest.TestCase):
    def test_the_least_of_each_kind(self):
        fitting = {"into": ["into", "onto", "exact"], "onto": ["onto", "exact"], "exact": ["exact"]}
        found = []
        for source, goal in pairs():
            for wanted, kinds in fitting.items():
                right = [value for value in all_maps(source, goal) if kind_told(source, goal, value) in kinds]
                first = first_map(source, goal, wanted)
                self.assertEqual(first, right[0] if right else None)
                if first is not None:
                    self.assertIs(type(first), tuple)
                    found.append((wanted, kind_told(source, goal, first)))
        # Each word got every kind that is fit for it.
        self.assertEqual(len(set(found)), 6)

    def test_told(self):
        source, goal = Query.read("<- a x, a y"), Query.read("<- a p, a q")
        self.assertEqual(first_map(source, goal, "into"), ("p", "p"))
        self.assertEqual(first_map(source, goal, "onto"), ("p", "q"))
        self.assertEqual(first_map(source, goal, "exact"), ("p", "q"))
        self.assertIsNone(first_map(source, Query.read("<- a p, a q, a q"), "exact"))

    def test_other_words(self):
        made = Query.read("<- a x")
        words = [
            *no_names(), "Into", "in", "on", "exactly", "into ", "kind", "onto exact", ["into"], ("into",), 0, 1, 2]
        for wanted in words:
            with self.assertRaises(InvalidKind):
                first_map(made, made, wanted)


class Composed(unittest.TestCase):
    def test_all_of_some_queries(self):
        order = ["into", "onto", "exact"]
        tried = 0
        for queries in groups():
            few = queries[:7]
            for source, middle, goal in product(few, repeat=3):
                for first in all_maps(source, middle):
                    for second in all_maps(middle, goal):
                        made = composed(source, middle, goal, first, second)
                        self.assertEqual(source.image(made), source.image(first).image(
                            tuple(second[middle.variables.index(name)] for name in source.image(first).variables)))
                        self.assertIsNone(map_error(source, goal, made))
                        least = min(order.index(kind(source, middle, first)), order.index(kind(middle, goal, second)))
                        self.assertGreaterEqual(order.index(kind(source, goal, made)), least)
                        self.assertIs(type(made), tuple)
                        tried += 1
        self.assertGreater(tried, 300)

    def test_told(self):
        source, middle, goal = Query.read("<- a x y"), Query.read("<- a p q, a q p"), Query.read("<- a u v, a v u")
        self.assertEqual(composed(source, middle, goal, ("q", "p"), ("u", "v")), ("v", "u"))
        self.assertEqual(composed(source, middle, goal, ("q", "p"), ("v", "u")), ("u", "v"))

    def test_what_is_no_map(self):
        source, middle, goal = Query.read("<- a x y"), Query.read("<- a p q, a q q"), Query.read("<- a u u, a u v")
        self.assertEqual(composed(source, middle, goal, ("p", "q"), ("u", "u")), ("u", "u"))
        for value in [*no_names(), ("p",), ("q", "p"), ("p", "p"), ["p", "q"], ("u", "u"), "pq", ("p", "q", "q")]:
            with self.assertRaises(InvalidMap):
                composed(source, middle, goal, value, ("u", "u"))
        for value in [*no_names(), ("u",), ("u", "v"), ("v", "u"), ["u", "u"], ("p", "q"), "uu", ("u", "u", "u")]:
            with self.assertRaises(InvalidMap):
                composed(source, middle, goal, ("p", "q"), value)


class OtherQueries(unittest.TestCase):
    def calls(self, source, goal):
        calls = [lambda: next(maps(source, goal)), lambda: list(maps(source, goal))]
        for value in [None, (), ("x",), ("x", "y"), ("x", "y", "z")]:
            calls.append(lambda value=value: map_error(source, goal, value))
            calls.append(lambda value=value: counts(source, goal, value))
            calls.append(lambda value=value: kind(source, goal, value))
        for wanted in ["into", "onto", "exact", "other", None]:
            calls.append(lambda wanted=wanted: first_map(source, goal, wanted))
        return calls

    def test_heads_come_first(self):
        for one, other in [("x <- a x y", "<- a x y"), ("<- a x", "x <- a x y"), ("x x <- a x", "x x x <- a x")]:
            for source, goal in [(one, other), (other, one)]:
                for call in self.calls(Query.read(source), Query.read(goal)):
                    with self.assertRaises(OtherHeads):
                        call()

    def test_places_come_before_all_else(self):
        for one, other in [("x <- a x y", "x <- a x"), ("x <- a x, b x y", "y <- b x y z, c y")]:
            for source, goal in [(one, other), (other, one)]:
                for call in self.calls(Query.read(source), Query.read(goal)):
                    with self.assertRaises(OtherPlaces):
                        call()

    def test_tables_of_one_query_alone_are_no_fault(self):
        self.assertEqual(list(maps(Query.read("x <- a x"), Query.read("x <- a x, b x y"))), [("x",)])
        self.assertEqual(list(maps(Query.read("x <- a x, b x y"), Query.read("x <- a x"))), [])


class Arguments(unittest.TestCase):
    def test_they_stay_as_they_were(self):
        source, goal, value = Query.read("x <- a x y, a z y"), Query.read("x <- a x y"), ("x", "y", "x")
        kept = [str(source), str(goal)]
        answers = [list(maps(source, goal)), map_error(source, goal, value), counts(source, goal, value)]
        self.assertEqual(
            answers, [list(maps(source, goal)), map_error(source, goal, value), counts(source, goal, value)])
        self.assertEqual([str(source), str(goal), value], [*kept, ("x", "y", "x")])

    def test_keywords(self):
        made, value = Query.read("x <- a x y"), ("x", "y")
        self.assertEqual(list(maps(goal=made, source=made)), [value])
        self.assertIsNone(map_error(value=value, goal=made, source=made))
        self.assertEqual(counts(value=value, goal=made, source=made), (1,))
        self.assertEqual(kind(value=value, goal=made, source=made), "exact")
        self.assertEqual(first_map(wanted="onto", goal=made, source=made), value)
        self.assertEqual(composed(second=value, first=value, goal=made, middle=made, source=made), value)


class Examples(unittest.TestCase):
    def test_of_the_document(self):
        source = Query.read("x <- edge x y, edge z y")
        goal = Query.read("u <- edge u v")
        value = ("u", "v", "u")
        self.assertEqual(
            [list(maps(source, goal)), counts(source, goal, value), kind(source, goal, value),
             first_map(goal, source, "onto")],
            [[("u", "v", "u")], (2,), "onto", None])


if __name__ == "__main__":
    unittest.main()
