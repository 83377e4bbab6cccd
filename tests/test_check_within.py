import unittest
from copy import deepcopy
from itertools import product
from random import Random

from marktables.measures import Bags, Cheapest, Counted, Dearest, Holds, Polynomials, Which, Why
from marktables.polynomials import Polynomial
from marktables.queries import Query
from marktables.within import check_within, within
from told import (
    TELLING, answer_told, counts_told, groupings_told, maps_told, random_pairs, union_of, unions, witness_told,
    wrong_entry_told)
from values import nested, no_names

ONE = union_of("x <- a x y, a y z\nx <- a x y")
OTHER = union_of("x <- a x y, a x z\nx <- a x y, a y z")
BIG = 10 ** 59 + 7


def some_pairs():
    """Pairs of which some are within one another."""
    chosen = [(one, other) for group in unions() for one in group for other in group[::3]]
    return [*chosen[::5], *random_pairs(31, 60, "xyz", 3)]


def right_answers(random, one, other, measure):
    """Answers that are right, and others than within returns."""
    label = measure.label
    paper = []
    for query in one.queries:
        found = maps_told(query, other)
        random.shuffle(found)
        met = {part: counts_told(query, other, *part) for part in found}
        if label == "holds":
            paper.append(found[0])
        elif label == "why":
            paper.append([part for part in found if all(many for many, _ in met[part])][0])
        elif label == "bags":
            paper.append([part for part in found if all(many == own for many, own in met[part])][0])
        elif label == "which":
            paper.append(found)
        else:
            entry = [(*part, times) for part, times in mixed(random, query, other, label, found)]
            paper.append(entry)
    return "yes", paper


def mixed(random, query, other, label, found):
    """A mixture with as many maps as there are, and great times, made from one that within returns."""
    from marktables.unions import Union
    measure = Cheapest() if label == "cheapest" else Dearest()
    first = within(Union(query), other, measure)[1][0]
    times = {part[:2]: part[2] * BIG for part in first}
    slack = all(own * sum(times.values()) != sum(counts_told(query, other, *part)[k][0] * many
                                                 for part, many in times.items())
                for k, own in enumerate([own for _, own in counts_told(query, other, *found[0])]))
    if slack:
        for part in found:
            times[part] = times.get(part, 0) + 1
    entry = list(times.items())
    random.shuffle(entry)
    return entry


class Right(unittest.TestCase):
    def test_of_within(self):
        for one, other in some_pairs():
            for measure in TELLING:
                answer = within(one, other, measure)
                kept = deepcopy(answer)
                self.assertIsNone(check_within(one, other, measure, answer))
                self.assertEqual(answer, kept)

    def test_others_than_within_returns(self):
        random = Random(32)
        tried = 0
        for one, other in some_pairs():
            for measure in TELLING[:6]:
                if within(one, other, measure)[0] == "yes":
                    answer = right_answers(random, one, other, measure)
                    self.assertIsNone(wrong_entry_told(one, other, measure.label, answer[1]))
                    self.assertIsNone(check_within(one, other, measure, answer), (measure.label, answer))
                    tried += answer != within(one, other, measure)
        self.assertGreater(tried, 100)

    def test_pairings_in_another_way(self):
        one, other = union_of("<- a x, a y\n<- a x"), union_of("<- a x, a y\n<- a x, a y\n<- a x")
        for measure in [Counted(), Polynomials()]:
            answer = within(one, other, measure)
            self.assertEqual(answer[0], "yes")
            # The other query of the same form serves as well, and some pairs may be exchanged.
            number = [len(query.atoms) for query in one.queries].index(2)
            free = [j for j, query in enumerate(other.queries) if len(query.atoms) == 2]
            for first, second in product(free, free):
                paper = deepcopy(answer[1])
                paper[number] = [(("x", "x"), first, ("x", "x"), ("x",)), (("x", "y"), second, ("x", "y"), ("x", "y"))]
                paper[1 - number] = [(("x",), [j for j in range(3) if j not in free][0], ("x",), ("x",))]
                self.assertIsNone(check_within(one, other, measure, ("yes", paper)))
                paper[number][1] = (("x", "y"), second, ("x", "y"), ("y", "x"))
                self.assertIsNone(check_within(one, other, measure, ("yes", paper)))

    def test_times_of_many_digits(self):
        one, other = union_of("<- a x, a y"), union_of("<- a x, a x")
        for measure in [Cheapest(), Dearest()]:
            for many in [1, 2, BIG, 10 ** 999]:
                entry = [(0, ("x",), many), (0, ("y",), many)]
                self.assertIsNone(check_within(one, other, measure, ("yes", [entry])))
                self.assertIsNone(check_within(one, other, measure, ("yes", [entry[::-1]])))
                entry[1] = (0, ("y",), many + 1)
                self.assertEqual(check_within(one, other, measure, ("yes", [entry])), ("entry", 0))

    def test_weights_of_many_digits(self):
        one, other = union_of("<- a x"), union_of("<- a x, a x")
        self.assertIsNone(check_within(one, other, Cheapest(), ("no", 0, ("x",), (10 ** 999,))))
        self.assertEqual(check_within(one, other, Cheapest(), ("no", 0, ("x",), (0,))), ("at most",))
        self.assertEqual(check_within(one, other, Dearest(), ("no", 0, ("x",), (10 ** 999,))), ("at most",))


class Answers(unittest.TestCase):
    def test_no_answer(self):
        paper = within(ONE, OTHER, Holds())[1]
        wrong = [
            *no_names(), "yes", ("yes",), ("no",), ["yes", paper], ("yes", tuple(paper)), ("yes", paper, ()),
            ("yes", paper, 0, ()), ("Yes", paper), (True, paper), ("yes", paper[:1]), ("yes", [*paper, paper[0]]),
            ("yes", []), ("yes", {0: 1, 1: 2}), ("yes", "ab"), ("yes", None), ("yes", 0, ("x", "y"), ()), ("no", paper),
            ("no", 0, ("x", "y")), ("no", 0, ("x", "y"), (), ()), ["no", 0, ("x", "y"), ()], ("NO", 0, ("x", "y"), ()),
            ("no", 0), (None, 0, ("x", "y"), ()), (("no",), 0, ("x", "y"), ()), (ONE, paper), ((), 0, (), ()), ((), ()),
            (Query(("x",), [("a", ("x", "y"))]), 0, (), ()), (Polynomial([]), []), nested(50), ("yes", nested(40)),
            {"yes": paper}, ("no",) * 5000, ("yes", [paper[0]] * 4000),
        ]
        for value in wrong:
            for measure in TELLING:
                self.assertEqual(check_within(ONE, OTHER, measure, value), ("answer",), (measure.label, value))


def values_for_entries():
    return [
        *no_names(), nested(50), (0,), (0, ("x", "y"), 1, 1), [0, ("x", "y")], ("x", "y"), [(0, ("x", "y")), None], [()],
        [None], [[]], [(None, None, None, None)], [("x", "y"), 0, ("x", "y"), ("x", "y")], ((0, ("x", "y")),), "xy",
    ]


class Entries(unittest.TestCase):
    def check(self, one, other, measure, paper, number):
        self.assertEqual(wrong_entry_told(one, other, measure.label, paper), number)
        wanted = None if number is None else ("entry", number)
        self.assertEqual(check_within(one, other, measure, ("yes", paper)), wanted, (measure.label, paper))

    def test_values_of_every_kind(self):
        one, other = union_of("<- a x y\n<- a x x"), union_of("<- a x y\n<- a x x")
        for measure in TELLING:
            paper = within(one, other, measure)[1]
            for value in values_for_entries():
                self.check(one, other, measure, [value, paper[1]], 0)
                self.check(one, other, measure, [paper[0], value], 1)
                self.check(one, other, measure, [value, value], 0)

    def test_the_least_number(self):
        one, other = union_of("<- a x\n<- a x, a x\n<- a x, a x, a x"), union_of("<- a x\n<- a x, a x\n<- a x, a x, a x")
        for measure in TELLING:
            paper = within(one, other, measure)[1]
            for places in product([False, True], repeat=3):
                made = [None if wrong else entry for wrong, entry in zip(places, paper)]
                self.check(one, other, measure, made, places.index(True) if True in places else None)

    def test_parts_of_maps(self):
        one, other = union_of("x <- a x y"), union_of("x <- a x y, a x z\nx <- a x y")
        least, values = [len(query.variables) for query in other.queries].index(2), ("x", "y")
        right = (least, values)
        wrong = [
            (True, values), (False, values), (2, values), (-1, values), (None, values), ("0", values), ((0,), values),
            (1 - least, values), (least, list(values)), (least, ("x",)), (least, ("x", "y", "y")), (least, ("y", "x")),
            (least, ("x", "x")), (least, ("x", "z")), (least, (0, 1)), (least, "xy"), (least, None), (least, ("x", None)),
            (least, ("x", ["y"])), (10 ** 999, values), (least, {"x": 1, "y": 1}), (least,), (least, values, 1, 1), [],
        ]
        for measure in [Holds(), Why(), Bags()]:
            self.check(one, other, measure, [right], None)
            for value in [*wrong, list(right), [right], (least, values, 1)]:
                self.check(one, other, measure, [value], 0)
        self.check(one, other, Which(), [[right]], None)
        for value in [*wrong, list(right), [right], (least, values, 1)]:
            for entry in [[value], [right, value], [value, right], (value,), *([value] if value != [right] else [])]:
                self.check(one, other, Which(), [entry], 0)
        for measure in [Cheapest(), Dearest()]:
            self.check(one, other, measure, [[(*right, 5)]], None)
            for value in [value if len(value) != 2 else (*value, 1) for value in wrong]:
                for entry in [[value], [(*right, 5), value], [value, (*right, 5)], value, (value,)]:
                    self.check(one, other, measure, [entry], 0)
            for times in [0, -1, True, False, None, "1", (1,), [1], 10 ** 999 * -1, Polynomial([])]:
                self.check(one, other, measure, [[(*right, times)]], 0)
                self.check(one, other, measure, [[(*right, 1), (1 - least, ("x", "y", "y"), times)]], 0)

    def test_lists_of_maps(self):
        one, other = union_of("<- a x, a y"), union_of("<- a x\n<- a x, a x")
        self.check(one, other, Which(), [[(0, ("x",)), (0, ("y",))]], None)
        self.check(one, other, Which(), [[(0, ("x",)), (1, ("y",))]], None)
        self.check(one, other, Which(), [[(0, ("x",)), (0, ("y",)), (1, ("x",)), (1, ("y",))]], None)
        for entry in [[], [(0, ("x",))], [(0, ("x",)), (1, ("x",))], [(0, ("x",)), (0, ("y",)), (0, ("x",))],
                      [(0, ("x",)), (0, ("x",))], ((0, ("x",)), (0, ("y",)))]:
            self.check(one, other, Which(), [entry], 0)
        single, double = [[len(query.atoms) for query in other.queries].index(many) for many in (1, 2)]
        cheap, dear = [Cheapest(), Dearest()]
        for entry, right in [
                ([], []), ([(single, ("x",), 1)], [cheap]), ([(double, ("x",), 1)], []),
                ([(double, ("x",), 1), (double, ("y",), 1)], [cheap, dear]),
                ([(double, ("x",), 1), (double, ("y",), 2)], []),
                ([(double, ("x",), 1), (single, ("y",), 2)], [cheap]),
                ([(double, ("x",), 1), (double, ("y",), 1), (double, ("x",), 1)], []),
                ([(double, ("x",), 2), (double, ("y",), 1), (single, ("y",), 1)], [cheap]),
                ([(double, ("x",), 1), (double, ("y",), 1), (single, ("y",), 1)], [cheap]),
                ([(double, ("x",), 3), (single, ("y",), 1)], [])]:
            for measure in [cheap, dear]:
                self.check(one, other, measure, [entry], None if measure in right else 0)

    def test_pairings(self):
        one, other = union_of("x <- a x y\nx <- a x y, a x z"), union_of("x <- a x y\nx <- a x y, a x z\nx <- a x x")
        for measure in [Counted(), Polynomials()]:
            paper = within(one, other, measure)[1]
            self.check(one, other, measure, paper, None)
            for number, entry in enumerate(paper):
                for place, part in enumerate(entry):
                    for value in self.wrong_pairings(part):
                        made = deepcopy(paper)
                        made[number][place] = value
                        self.check(one, other, measure, made, wrong_entry_told(one, other, measure.label, made))
                for made in [entry[:-1], entry[1:], entry[::-1], [*entry, entry[-1]], tuple(entry), [], [entry]]:
                    if made != entry:
                        self.check(one, other, measure, [*paper[:number], made, *paper[number + 1:]], number)

    def wrong_pairings(self, part):
        grouping, j, partner, names = part
        found = [part[:3], (*part, ()), list(part), None, (), (part,)]
        others = [
            None, True, 0, 1, 5, "x", (), ("x",), ["x"], ("x", "y"), ("y", "x"), ("x", "x"), ("x", "y", "z"), ("x", "y", "y"),
            ("x", "x", "z"), ("y", "y", "y"), ("x", "z", "z"), list(partner), list(names), {}, nested(50), ("x", ("y",)),
            (None, "x"), ("x", 1)]
        for place in range(4):
            found += [(*part[:place], value, *part[place + 1:]) for value in others]
        found += [(grouping, value, partner, names) for value in (-1, 2, 3, False, 10 ** 999, str(j), Polynomial([]))]
        return found

    def test_a_pair_of_an_earlier_entry(self):
        one, other = union_of("<- a x\n<- a x"), union_of("<- a x\n<- a x\n<- b x")
        part = [(("x",), 0, ("x",), ("x",)), (("x",), 1, ("x",), ("x",))]
        for measure in [Counted(), Polynomials()]:
            self.check(one, other, measure, [[part[0]], [part[1]]], None)
            self.check(one, other, measure, [[part[1]], [part[0]]], None)
            self.check(one, other, measure, [[part[0]], [part[0]]], 1)
            self.check(one, other, measure, [[part[1]], [part[1]]], 1)
            self.check(one, other, measure, [[(("x",), 2, ("x",), ("x",))], [part[1]]], 0)
        # Within one entry.
        one, other = union_of("<- a x x, a y y"), union_of("<- a x x, a y y")
        paper = within(one, other, Counted())[1]
        paper[0][0] = (("x", "x"), 0, ("x", "y"), ("x", "y"))
        self.check(one, other, Counted(), paper, 0)

    def test_a_name_that_is_used_twice(self):
        one, other = union_of("<- a x y"), union_of("<- a x y\n<- a x y")
        last = (("x", "y"), 1, ("x", "y"), ("x", "y"))
        for measure in [Counted(), Polynomials()]:
            self.check(one, other, measure, [[(("x", "x"), 0, ("x", "x"), ("x",)), last]], None)
            self.check(one, other, measure, [[(("x", "x"), 0, ("x", "y"), ("x", "x")), last]], 0)

    def test_as_told_for_changed_papers(self):
        random = Random(33)
        for one, other in some_pairs():
            for measure in TELLING:
                answer = within(one, other, measure)
                for _ in range(4 if answer[0] == "yes" else 0):
                    paper = changed(random, answer[1], [query.variables for query in one.queries])
                    if len(paper) == len(one.queries):
                        self.check(one, other, measure, paper, wrong_entry_told(one, other, measure.label, paper))


def changed(random, value, variables):
    """The same with some part of it changed."""
    if isinstance(value, (list, tuple)) and value and random.random() < 0.85:
        place = random.randrange(len(value))
        parts = [changed(random, part, variables) if k == place else deepcopy(part) for k, part in enumerate(value)]
        return type(value)(parts)
    if isinstance(value, list):
        return random.choice([value[::-1], value[1:] + value[:1], [*value, *value[:1]], list(value)])
    if isinstance(value, int):
        return random.choice([value + 1, max(value - 1, 0), 0, 2 * value])
    if isinstance(value, str):
        return random.choice("wxyz")
    return value


class Counterexamples(unittest.TestCase):
    def told(self, one, other, measure, answer):
        """The first wrong thing of an answer of the right form."""
        _, number, grouping, weights = answer
        query = one.queries[number]
        if measure.label in ("counted", "polynomials"):
            if grouping not in groupings_told(query):
                return ("grouping",)
        elif grouping != query.variables:
            return ("grouping",)
        rows, marks, head = witness_told(one, measure, answer)
        left = answer_told(rows, one, measure, marks, head)
        right = answer_told(rows, other, measure, marks, head)
        return ("at most",) if measure.at_most(left, right) else None

    def test_as_told(self):
        results = {}
        for one, other in some_pairs()[::3]:
            for measure in TELLING:
                for number, query in enumerate(one.queries):
                    atoms = len(set(query.atoms))
                    for grouping in product(query.variables, repeat=len(query.variables)):
                        weights = product((0, 1, 3), repeat=atoms) if measure.label in ("cheapest", "dearest") else [()]
                        for chosen in list(weights) if grouping == query.variables else [(0,) * atoms]:
                            answer = ("no", number, grouping, chosen)
                            found = check_within(one, other, measure, answer)
                            if chosen == (0,) * atoms and measure.label not in ("cheapest", "dearest"):
                                self.assertIn(found, [("weights",), ("grouping",)])
                                answer = ("no", number, grouping, ())
                                found = check_within(one, other, measure, answer)
                            self.assertEqual(found, self.told(one, other, measure, answer))
                            results[found] = results.get(found, 0) + 1
        self.assertGreater(min(results.values()), 100)
        self.assertEqual(len(results), 3)

    def test_each_part_in_its_order(self):
        one, other = union_of("<- a x y, a y z"), union_of("<- a x y, a x y")
        values = [value for value in no_names() if value != ()]
        for measure in TELLING:
            weighed = measure.label in ("cheapest", "dearest")
            groups = [("x", "y", "z")] if measure.label not in ("counted", "polynomials") else groupings_told(one.queries[0])
            right = [(0, 0), (1, 0)] if weighed else [()]
            for value in [*values, -1, 1, 10 ** 999, True, False, "0", (0,)]:
                for grouping, weights in [(groups[-1], right[0]), (None, None), ((), ())]:
                    if not (type(value) is int and value == 0):
                        self.assertEqual(
                            check_within(one, other, measure, ("no", value, grouping, weights)), ("number",))
            for value in [*values, (), ("x",), ["x", "y", "z"], ("z", "y", "x"), ("y", "y", "y"), ("x", "y", "z", "z"),
                          ("x", "y", "a"), ("x", "z", "z"), ("x", "y", None), ("x", "y", ["z"]), (0, 1, 2)]:
                for weights in [right[0], None]:
                    self.assertEqual(check_within(one, other, measure, ("no", 0, value, weights)), ("grouping",))
            for value in [*values, (0,), (0, 0, 0), [0, 0], (0, -1), (0, True), (False, 0), (0, None), ("0", "0"), [],
                          (0, (0,)), {}, None, 0]:
                for grouping in groups:
                    self.assertEqual(check_within(one, other, measure, ("no", 0, grouping, value)), ("weights",))
            if weighed:
                self.assertEqual(check_within(one, other, measure, ("no", 0, groups[0], ())), ("weights",))
            else:
                self.assertEqual(check_within(one, other, measure, ("no", 0, groups[0], (0, 0))), ("weights",))

    def test_grouped_queries_are_for_the_measures_that_count(self):
        one, other = union_of("<- a x y"), union_of("<- b x, b y")
        for measure in TELLING:
            weights = (0,) if measure.label in ("cheapest", "dearest") else ()
            self.assertIsNone(check_within(one, other, measure, ("no", 0, ("x", "y"), weights)))
            found = check_within(one, other, measure, ("no", 0, ("x", "x"), weights))
            self.assertEqual(found, None if measure.label in ("counted", "polynomials") else ("grouping",))

    def test_of_another_query_of_the_union(self):
        # The answer at the head row is more than that of the other union, although the query itself is within it.
        one, other = union_of("<- a x x\n<- a x y\n<- a x y"), union_of("<- a x y\n<- a x y\n<- a x y")
        number = [len(query.variables) for query in one.queries].index(1)
        self.assertEqual(check_within(one, other, Counted(), ("no", number, ("x",), ())), ("at most",))
        other = union_of("<- a x y\n<- a x y")
        self.assertIsNone(check_within(one, other, Counted(), ("no", number, ("x",), ())))
        for number, query in enumerate(one.queries):
            if len(query.variables) == 2:
                self.assertIsNone(check_within(one, other, Counted(), ("no", number, ("x", "x"), ())))
                self.assertEqual(check_within(one, other, Counted(), ("no", number, ("x", "y"), ())), ("at most",))


class Sizes(unittest.TestCase):
    def test_long_entries(self):
        one = union_of("<- a v, a w, a x, a y, a z")
        other = union_of("<- a v, a w, a x, a y, a z, a z")
        entry = [(0, value) for value in product("vwxyz", repeat=5)]
        self.assertIsNone(check_within(one, other, Which(), ("yes", [entry])))
        self.assertEqual(check_within(one, other, Which(), ("yes", [[*entry, entry[7]]])), ("entry", 0))
        entry = [(*part, BIG) for part in entry]
        self.assertEqual(check_within(one, other, Cheapest(), ("yes", [entry])), ("entry", 0))
        self.assertIsNone(check_within(one, other, Dearest(), ("yes", [entry])))

    def test_nothing_is_modified(self):
        one, other = union_of("<- a x, a y"), union_of("<- a x, a x")
        for measure, entry in [(Which(), [(0, ("x",)), (0, ("y",))]), (Cheapest(), [(0, ("x",), 1), (0, ("y",), 1)]),
                               (Which(), [(0, ("x",)), None]), (Cheapest(), [(0, ("x",), 1), [1]])]:
            paper = [entry]
            kept = deepcopy(paper)
            first = check_within(one, other, measure, ("yes", paper))
            self.assertEqual(check_within(one, other, measure, ("yes", paper)), first)
            self.assertEqual(paper, kept)
            self.assertIs(paper[0], entry)


if __name__ == "__main__":
    unittest.main()
