import unittest
from itertools import permutations

from marktables.errors import InvalidText, InvalidUnion, OtherHeads, OtherPlaces
from marktables.queries import Query, isomorphism, normal
from marktables.unions import Union, normal_union, same_lists
from values import no_names

A = Query.read("x <- a x y")
B = Query.read("x <- a y x")
C = Query.read("y <- a x y, b y")
NO_HEAD = Query.read("<- a x y")
LONG_A = Query.read("x <- a x y z")
LONG_B = Query.read("x <- b x y")


def reason_of(*queries):
    try:
        Union(*queries)
    except InvalidUnion as error:
        return error.reason
    return None


def joined_reason(one, other):
    try:
        one | other
    except InvalidUnion as error:
        return error.reason
    return None


def no_queries():
    return [value for value in no_names() if not isinstance(value, Query)]


class Reasons(unittest.TestCase):
    def test_unions(self):
        for queries in [(A,), (A, A), (A, A, A), (B, A, C), (LONG_A, LONG_B)]:
            self.assertIsNone(reason_of(*queries))

    def test_queries(self):
        self.assertEqual(reason_of(), ("queries",))
        self.assertEqual(reason_of(A, A, A, A), ("queries",))
        self.assertEqual(reason_of(*[A] * 100), ("queries",))

    def test_query(self):
        for value in [*no_queries(), [A], (A,), "x <- a x y"]:
            self.assertEqual(reason_of(value), ("query", 0))
            self.assertEqual(reason_of(A, value, None), ("query", 1))
            self.assertEqual(reason_of(A, NO_HEAD, value), ("query", 2))

    def test_head(self):
        self.assertEqual(reason_of(A, NO_HEAD), ("head", 1))
        self.assertEqual(reason_of(NO_HEAD, A, A), ("head", 1))
        self.assertEqual(reason_of(A, A, NO_HEAD), ("head", 2))
        self.assertEqual(reason_of(A, Query.read("x x <- a x y"), NO_HEAD), ("head", 1))

    def test_places(self):
        self.assertEqual(reason_of(A, LONG_A), ("places", 1))
        self.assertEqual(reason_of(A, LONG_B, C), ("places", 2))
        self.assertEqual(reason_of(C, LONG_A, LONG_B), ("places", 1))
        self.assertEqual(reason_of(LONG_B, A, C), ("places", 2))

    def test_order(self):
        self.assertEqual(reason_of(None, None, None, None), ("queries",))
        self.assertEqual(reason_of(A, NO_HEAD, None), ("query", 2))
        self.assertEqual(reason_of(A, LONG_A, NO_HEAD), ("head", 2))


class Properties(unittest.TestCase):
    def test_queries_ascend(self):
        for queries in permutations([A, B, C]):
            self.assertEqual(Union(*queries).queries, (A, B, C))
        self.assertEqual(Union(B, A, B).queries, (A, B, B))
        self.assertIs(type(Union(A).queries), tuple)

    def test_the_head_comes_first_in_the_order(self):
        late, early = Query.read("y <- a y x"), Query.read("x <- z x y")
        self.assertEqual(Union(late, early).queries, (early, late))
        long, short = Query.read("<- aa x"), Query.read("<- a x, b x")
        self.assertEqual(Union(long, short).queries, (short, long))

    def test_length(self):
        self.assertEqual([len(Union(A)), len(Union(A, A)), len(Union(C, A, A))], [1, 2, 3])

    def test_equality(self):
        self.assertIs(Union(A, B) == Union(B, A), True)
        self.assertIs(Union(A, B) != Union(B, A), False)
        others = [Union(A), Union(A, A, B), Union(A, C), A, (A, B), [A, B], "x <- a x y\nx <- a y x", *no_names()]
        for other in others:
            self.assertIs(Union(A, B) == other, False)
            self.assertIs(other == Union(A, B), False)
            self.assertIs(Union(A, B) != other, True)
        self.assertIs(Union(A) == A, False)


class Joined(unittest.TestCase):
    def test_joined(self):
        one, other = Union(C), Union(B, A)
        self.assertEqual(one | other, Union(A, B, C))
        self.assertEqual(other | one, Union(A, B, C))
        self.assertEqual((Union(A) | Union(A)).queries, (A, A))
        self.assertIs(type(one | other), Union)
        self.assertEqual([one, other], [Union(C), Union(A, B)])

    def test_refused(self):
        self.assertEqual(joined_reason(Union(A, B), Union(A, B)), ("queries",))
        self.assertEqual(joined_reason(Union(A, B), Union(NO_HEAD, NO_HEAD)), ("queries",))
        self.assertEqual(joined_reason(Union(A, B), Union(NO_HEAD)), ("head", 2))
        self.assertEqual(joined_reason(Union(NO_HEAD), Union(A, B)), ("head", 1))
        self.assertEqual(joined_reason(Union(A), Union(LONG_A)), ("places", 1))

    def test_numbers_are_those_of_the_ascending_queries(self):
        # LONG_B stands behind B only in the order in which it is passed.
        self.assertEqual(Union(LONG_B, B).queries, (B, LONG_B))
        self.assertEqual(joined_reason(Union(C), Union(LONG_B, B)), ("places", 2))
        self.assertEqual(joined_reason(Union(LONG_B, B), Union(C)), ("places", 2))


class Lists(unittest.TestCase):
    def test_normal_union(self):
        union = Union(C, A)
        self.assertEqual(normal_union(union), Union(normal(A), normal(C)))
        self.assertEqual(union, Union(A, C))
        renamed = Union(Query.read("z <- a z y"), Query.read("y <- a y x"))
        self.assertEqual(str(normal_union(renamed)), "a <- a a b\na <- a a b")

    def test_same_lists(self):
        other = Union(B.image(("q", "p")), A.image(("u", "v")))
        self.assertIs(same_lists(Union(A, B), other), True)
        self.assertIs(same_lists(other, Union(A, B)), True)
        self.assertIs(same_lists(Union(A, B), Union(A, A)), False)
        self.assertIs(same_lists(Union(A, B, B), Union(A, A, B)), False)
        self.assertIs(same_lists(Union(A), Union(A, A)), False)
        self.assertIs(same_lists(Union(A), Union(LONG_B)), False)

    def test_same_lists_are_matched_by_isomorphisms(self):
        queries = [A, B, C, A.image(("y", "x")), B.image(("q", "q")), C.image(("y", "x"))]
        for one in queries:
            for other in queries:
                same = isomorphism(one, other) is not None
                self.assertIs(same_lists(Union(one), Union(other)), same)
                self.assertIs(same_lists(Union(one, A), Union(A, other)), same)

    def test_errors_and_their_order(self):
        for one, other in [(A, NO_HEAD), (LONG_A, NO_HEAD)]:
            with self.assertRaises(OtherHeads):
                same_lists(Union(one), Union(other))
            with self.assertRaises(OtherHeads):
                same_lists(Union(other), Union(one))
        for one, other in [(Union(A), Union(LONG_A)), (Union(A, C), Union(B, LONG_B)), (Union(LONG_B, A), Union(C))]:
            with self.assertRaises(OtherPlaces):
                same_lists(one, other)
            with self.assertRaises(OtherPlaces):
                same_lists(other, one)


class Texts(unittest.TestCase):
    def test_text(self):
        self.assertEqual(str(Union(A)), "x <- a x y")
        self.assertEqual(str(Union(C, B, A)), "x <- a x y\nx <- a y x\ny <- a x y, b y")
        self.assertEqual(str(Union(A, A)), "x <- a x y\nx <- a x y")

    def test_read(self):
        for queries in [(A,), (A, A), (A, B, C), (LONG_A, LONG_B), (NO_HEAD, NO_HEAD, NO_HEAD)]:
            union = Union(*queries)
            self.assertEqual(Union.read(str(union)), union)
            self.assertEqual(str(Union.read(text=str(union))), str(union))
            self.assertIs(type(Union.read(str(union))), Union)

    def test_invalid_texts(self):
        one, two, three = str(A), str(B), str(C)
        texts = [
            "", "\n", "\n\n", "x", one + "\n", "\n" + one, one + "\n\n" + two, two + "\n" + one, three + "\n" + one,
            one + "\n" + one + "\n" + one + "\n" + one, one + "\n" + str(NO_HEAD), one + "\n" + str(LONG_A),
            one + " \n" + two, one + "\n " + two, " " + one, one + " ", one + two, one + ", " + two,
            one + "\\n" + two, "x <- a\nx y", "x <- b x, a x", one + "\n<-", one + "\nx", "\n" * 3000, "x" * 3000,
        ]
        for text in texts:
            with self.assertRaises(InvalidText, msg=repr(text)):
                Union.read(text)


if __name__ == "__main__":
    unittest.main()
