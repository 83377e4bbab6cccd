import unittest
from itertools import combinations
from random import Random

from marktables.errors import InvalidNames, InvalidTables, TooMany
from marktables.polynomials import Polynomial
from marktables.reading import after, difference, least_deletions, reasons
from marktables.tables import Tables, polynomial_answers
from marktables.unions import Union
from values import no_names

TABLES = Tables([("r", "edge", (1, 2)), ("s", "edge", (2, 2)), ("t", "edge", (3, 2))])
UNION = Union.read("x <- edge x y, edge y z")


def some_polynomial(random, names):
    count = random.randrange(8)
    terms = [(tuple(sorted(random.choice(names) for _ in range(random.choice([0, 1, 2, 2, 3, 3, 4])))),
              random.choice([-2, 1, 3])) for _ in range(count)]
    return Polynomial(terms)


def polynomials():
    random = Random(11)
    return [some_polynomial(random, names) for names in ["rst", "qrstu", "pqrstuvw"] for _ in range(80)]


def texts(changes):
    return {head: str(change) for head, change in changes.items()}


class After(unittest.TestCase):
    def test_all_of_some_names(self):
        for polynomial in polynomials():
            kept = polynomial.terms
            for names in [[], ["r"], ("r", "t"), ["s", "s", "none"], ("t", "q", "r")]:
                found = after(polynomial, names)
                self.assertIs(type(found), Polynomial)
                self.assertEqual(found.terms, tuple(term for term in kept if not set(term[0]) & set(names)))
            self.assertEqual(polynomial.terms, kept)

    def test_told(self):
        made = Polynomial([((), 2), (("r", "r", "s"), 1), (("r", "t"), -3), (("s",), 1)])
        self.assertEqual(str(after(made, ["s"])), "2 - 3 r t")
        self.assertEqual(str(after(made, ("r",))), "2 + s")
        self.assertEqual(str(after(made, ["s", "t", "r", "r", "x"])), "2")
        self.assertEqual(after(made, []), made)
        self.assertEqual(str(after(Polynomial([(("r",), 1), (("rs",), 1)]), ["r"])), "rs")
        self.assertEqual(after(names=["s"], polynomial=made), after(made, ["s"]))

    def test_invalid_names(self):
        made = Polynomial([(("r",), 1)])
        for value in [None, True, 0, "", "r", {}, {"r": 1}, made, TABLES, UNION]:
            with self.assertRaises(InvalidNames):
                after(made, value)
        for value in no_names():
            for names in [[value], (value,), ["r", value], ("x", "r", value, "r"), [value, "r"]]:
                with self.assertRaises(InvalidNames):
                    after(made, names)
                with self.assertRaises(InvalidNames):
                    after(Polynomial([]), names)

    def test_names_stay_as_they_were(self):
        names = ["s", "r", "s"]
        after(Polynomial([(("r",), 1)]), names)
        self.assertEqual(names, ["s", "r", "s"])


def reasons_told(polynomial):
    found = {frozenset(monomial) for monomial, _ in polynomial.terms}
    return sorted(tuple(sorted(names)) for names in found if not any(other < names for other in found))


def deletions_told(wanted):
    names = sorted({name for reason in wanted for name in reason})
    sets = [set(chosen) for size in range(len(names) + 1) for chosen in combinations(names, size)]
    found = [chosen for chosen in sets if all(chosen & set(reason) for reason in wanted)]
    fewest = min([len(chosen) for chosen in found], default=0)
    return sorted(tuple(sorted(chosen)) for chosen in found if len(chosen) == fewest)


class Reasons(unittest.TestCase):
    def test_of_all(self):
        for polynomial in polynomials():
            found = reasons(polynomial)
            self.assertEqual(found, reasons_told(polynomial))
            self.assertEqual([type(value) for value in [found, *found]], [list] + [tuple] * len(found))

    def test_told(self):
        made = Polynomial([(("r", "r", "s"), 1), (("r", "t"), 3), (("s",), 1)])
        self.assertEqual(reasons(made), [("r", "t"), ("s",)])
        made = Polynomial([(("r", "s"), 1), (("r", "r", "s", "s"), 1), (("s", "t"), 1), (("r", "s", "t"), 1)])
        self.assertEqual(reasons(made), [("r", "s"), ("s", "t")])
        self.assertEqual(reasons(polynomial=Polynomial([(("b", "c"), 1), (("a", "d"), 1)])), [("a", "d"), ("b", "c")])

    def test_negative_terms_count_too(self):
        self.assertEqual(reasons(Polynomial([(("r", "s"), 1), (("r",), -1)])), [("r",)])

    def test_none_and_the_empty_one(self):
        self.assertEqual(reasons(Polynomial([])), [])
        self.assertEqual(reasons(Polynomial([(("r",), 1), (("r",), -1)])), [])
        self.assertEqual(reasons(Polynomial([((), 1)])), [()])
        self.assertEqual(reasons(Polynomial([((), 5), (("r",), 1), (("s", "t"), 2)])), [()])

    def test_an_answer_remains_if_some_reason_does(self):
        for polynomial in polynomials():
            for names in ["r", "st", "qrs"]:
                remains = after(polynomial, list(names)).terms != ()
                self.assertIs(remains, any(not set(reason) & set(names) for reason in reasons(polynomial)))

    def test_returned_lists_are_new(self):
        made = Polynomial([(("r",), 1), (("s",), 1)])
        reasons(made).append(("t",))
        least_deletions(made).clear()
        self.assertEqual([reasons(made), least_deletions(made)], [[("r",), ("s",)], [("r", "s")]])


class Deletions(unittest.TestCase):
    def test_of_all(self):
        for polynomial in polynomials():
            found = least_deletions(polynomial)
            self.assertEqual(found, deletions_told(reasons_told(polynomial)))
            self.assertEqual([type(value) for value in [found, *found]], [list] + [tuple] * len(found))
            for names in found:
                self.assertEqual(after(polynomial, names).terms, ())

    def test_told(self):
        made = Polynomial([(("r", "r", "s"), 1), (("r", "t"), 3), (("s",), 1)])
        self.assertEqual(least_deletions(made), [("r", "s"), ("s", "t")])
        ring = Polynomial([(("a", "b"), 1), (("b", "c"), 1), (("c", "d"), 1), (("a", "d"), 1)])
        self.assertEqual(least_deletions(polynomial=ring), [("a", "c"), ("b", "d")])
        star = Polynomial([(("a", "z"), 1), (("b", "z"), 1), (("c", "z"), 1)])
        self.assertEqual(least_deletions(star), [("z",)])

    def test_no_reason_and_the_empty_one(self):
        self.assertEqual(least_deletions(Polynomial([])), [()])
        self.assertEqual(least_deletions(Polynomial([((), 1)])), [])
        self.assertEqual(least_deletions(Polynomial([((), 2), (("r",), 1)])), [])

    def test_too_many_names(self):
        letters = "abcdefghijkl"
        for count in [10, 11, 12]:
            made = Polynomial([((name,), 1) for name in letters[:count]])
            if count <= 10:
                self.assertEqual(least_deletions(made), [tuple(letters[:count])])
                continue
            with self.assertRaises(TooMany) as caught:
                least_deletions(made)
            self.assertEqual(caught.exception.count, count)
        with self.assertRaises(TooMany) as caught:
            least_deletions(Polynomial([(tuple("abcdef"), 1), (tuple("fghijklm"), 1)]))
        self.assertEqual(caught.exception.count, 13)

    def test_only_names_in_reasons_count(self):
        letters = "abcdefghijkl"
        self.assertEqual(least_deletions(Polynomial([(("a",), 1), (tuple(letters), 1)])), [("a",)])
        self.assertEqual(least_deletions(Polynomial([((), 1), (tuple(letters), 1)])), [])


class Differences(unittest.TestCase):
    def test_told(self):
        self.assertEqual(texts(difference(TABLES, UNION, ["s"], [])), {(1,): "-r s", (2,): "-s s", (3,): "-s t"})
        self.assertEqual(texts(difference(TABLES, UNION, ("t",), ())), {(3,): "-s t"})
        self.assertEqual(
            texts(difference(TABLES, UNION, [], [("u", "edge", (2, 3))])),
            {(1,): "r u", (2,): "s u + t u", (3,): "t u"})
        self.assertEqual(
            texts(difference(TABLES, UNION, ["s", "s"], [("u", "edge", (2, 3)), ("s", "edge", (5, 5))])),
            {(1,): "-r s + r u", (2,): "-s s + t u", (3,): "-s t + t u", (5,): "s s"})

    def test_differences_that_are_0_are_left_out(self):
        self.assertEqual(difference(TABLES, UNION, [], []), {})
        self.assertEqual(difference(TABLES, UNION, ["s"], [("s", "edge", (2, 2))]), {})
        self.assertEqual(difference(TABLES, UNION, ["r", "s", "t"], list(TABLES.rows)), {})
        self.assertEqual(difference(TABLES, UNION, [], [("u", "other", (1,))]), {})
        self.assertEqual(list(difference(TABLES, UNION, ["r"], [])), [(1,)])

    def test_a_row_that_gets_another_name(self):
        found = difference(TABLES, UNION, ["r"], [("q", "edge", (1, 2))])
        self.assertEqual(texts(found), {(1,): "q s - r s"})

    def test_all_of_some(self):
        random = Random(21)
        for _ in range(150):
            old = [(name, "edge", (random.randrange(3), k)) for k, name in enumerate("abcd") if random.random() < 0.8]
            gone = [name for name, _, _ in old if random.random() < 0.4]
            new = [(name, "edge", (k, random.randrange(4, 7))) for k, name in enumerate("wx") if random.random() < 0.7]
            union = Union.read(random.choice(
                ["x <- edge x y, edge y z", "x z <- edge x y, edge z y", "<- edge x y\n<- edge y y"]))
            left = [row for row in old if row[0] not in gone]
            before = polynomial_answers(Tables(old), union)
            now = polynomial_answers(Tables([*left, *new]), union)
            nothing = Polynomial([])
            told = {head: now.get(head, nothing) - before.get(head, nothing) for head in sorted({*before, *now})}
            found = difference(Tables(old), union, gone, new)
            self.assertEqual(list(found.items()), [(head, change) for head, change in told.items() if change.terms])
            self.assertIs(type(found), dict)
            self.assertTrue(all(type(change) is Polynomial for change in found.values()))

    def test_invalid_names(self):
        for value in [None, True, 0, "", "r", {}, {"r": 1}, UNION, TABLES, "rst"]:
            for rows in [[], None, [None]]:
                with self.assertRaises(InvalidNames):
                    difference(TABLES, UNION, value, rows)
        for value in [*no_names(), "q", "edge", ("r", "edge", (1, 2)), 1]:
            for names in [[value], ("r", value), [value, "s", "t"]]:
                with self.assertRaises(InvalidNames):
                    difference(TABLES, UNION, names, [])
        with self.assertRaises(InvalidNames):
            difference(Tables([]), UNION, ["r"], [])

    def reason_of(self, names, rows):
        with self.assertRaises(InvalidTables) as caught:
            difference(TABLES, UNION, names, rows)
        return caught.exception.reason

    def test_invalid_tables(self):
        for rows in [None, True, 3, "", "rows", {}, {"u": 1}, TABLES, UNION]:
            self.assertEqual(self.reason_of([], rows), ("rows",))
            self.assertEqual(self.reason_of(["r", "s", "t"], rows), ("rows",))
        more = [(name, "edge", (k, 9)) for k, name in enumerate("uvwx")]
        self.assertEqual(self.reason_of([], more), ("rows",))
        self.assertEqual(self.reason_of(["r"], [*more, None]), ("rows",))
        self.assertEqual(texts(difference(TABLES, UNION, ["r"], more)), {(1,): "-r s", (2,): "s w", (3,): "t w"})
        self.assertEqual(self.reason_of([], [None]), ("row", 3))
        self.assertEqual(self.reason_of(["s", "s"], [("u", "edge", (7, True))]), ("row", 2))
        self.assertEqual(self.reason_of(["r"], [("s", "edge", (7, 7))]), ("name", 2))
        self.assertEqual(self.reason_of(["r"], [("r", "edge", (7, 7)), ("r", "edge", (8, 8))]), ("name", 3))
        self.assertEqual(self.reason_of(["r"], [("r", "edge", (7,))]), ("places", 2))
        self.assertEqual(self.reason_of([], (("u", "edge", (3, 2)),)), ("repeated", 3))
        self.assertEqual(self.reason_of(["r"], [("u", "edge", (1, 2)), ("v", "edge", (1, 2))]), ("repeated", 3))

    def test_other_places_are_right_where_no_row_of_the_table_remains(self):
        self.assertEqual(
            texts(difference(TABLES, UNION, ["r", "s", "t"], [("u", "edge", (1,))])),
            {(1,): "-r s", (2,): "-s s", (3,): "-s t"})

    def test_arguments_stay_as_they_were(self):
        names, rows = ["s", "r"], [("z", "edge", (4, 4)), ("u", "edge", (2, 3))]
        found = difference(TABLES, UNION, names, rows)
        self.assertEqual([names, rows], [["s", "r"], [("z", "edge", (4, 4)), ("u", "edge", (2, 3))]])
        self.assertEqual(difference(rows=rows, names=names, union=UNION, tables=TABLES), found)
        found.clear()
        self.assertEqual(len(difference(TABLES, UNION, names, rows)), 4)


class Examples(unittest.TestCase):
    def test_of_the_document(self):
        polynomial = Polynomial([(("r", "r", "s"), 1), (("r", "t"), 3), (("s",), 1)])
        self.assertEqual(
            [reasons(polynomial), least_deletions(polynomial), str(after(polynomial, ["s"]))],
            [[("r", "t"), ("s",)], [("r", "s"), ("s", "t")], "3 r t"])


if __name__ == "__main__":
    unittest.main()
