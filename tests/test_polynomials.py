import unittest
from random import Random

from marktables.errors import InvalidMarks, InvalidTerms, NegativeTerm
from marktables.measures import Cheapest, Holds, Numbers, Polynomials, Which, Why
from marktables.names import is_monomial
from marktables.polynomials import Polynomial
from measure_marks import MARKS
from small_measures import SmallNumbers
from values import nested, no_names

GREAT = 10 ** 29 + 12345


def no_terms():
    """Values of every kind, none of which is a term."""
    shapes = [
        ("r", 1), (["r"], 1), ({"r": 1}, 1), (("r",),), (("r",), 1, 1), [("r",), 1], "ab", (1, ("r",)), (("r",), "1"),
        (("s", "r"), 1), (("r", "s", "r"), 1), (("r", ()), 1), ((("r",),), 1), (("r",), (1,)),
    ]
    wrong = [value for value in no_names() if not isinstance(value, int) or isinstance(value, bool)]
    shapes.extend([(("r",), value) for value in wrong])
    for value in no_names():
        shapes.extend([value, ((value,), 1), (("r", value), 1), ((value, "r"), 1)])
    return shapes


def told(terms):
    """What the terms of a polynomial must be."""
    found = {}
    for monomial, coefficient in terms:
        found[monomial] = found.get(monomial, 0) + coefficient
    return tuple((monomial, found[monomial]) for monomial in sorted(found) if found[monomial])


def some_terms(random, most=6):
    """Terms with a few monomials, so that equal ones and sums of 0 occur."""
    return [(tuple(sorted(random.choice("rst") for _ in range(random.randrange(3)))), random.randrange(-2, 3))
            for _ in range(random.randrange(most))]


class Monomials(unittest.TestCase):
    def test_monomials(self):
        for value in [(), ("r",), ("r", "r"), ("a", "b", "b", "z"), ("x",) * 60, ("a", "abcdefgh", "b")]:
            self.assertIs(is_monomial(value), True)

    def test_no_monomials(self):
        wrong = [
            ("b", "a"), ("a", "b", "a"), ["a"], "a", "", None, {"a": 1}, ("a", ("b",)), (("a",),), ("a", 1), nested(2)]
        wrong.extend([(value,) for value in no_names()])
        for value in wrong:
            self.assertIs(is_monomial(value), False)


class Terms(unittest.TestCase):
    def test_gathered_and_ascending(self):
        random = Random(1)
        for _ in range(200):
            terms = some_terms(random, 9)
            made = Polynomial(terms)
            self.assertEqual(made.terms, told(terms))
            self.assertEqual(Polynomial(tuple(terms)).terms, told(terms))
            self.assertIs(type(made.terms), tuple)
            for term in made.terms:
                self.assertEqual([type(term), type(term[0]), type(term[1])], [tuple, tuple, int])

    def test_told(self):
        made = Polynomial([
            (("s",), 2), ((), -1), (("r", "r"), 0), (("s",), -3), (("r",), 1), (("r", "s"), 4),
            (("t",), 5), (("t",), -5)])
        self.assertEqual(made.terms, (((), -1), (("r",), 1), (("r", "s"), 4), (("s",), -1)))
        self.assertEqual(Polynomial([]).terms, ())
        self.assertEqual(Polynomial(()).terms, ())
        self.assertEqual(Polynomial([((), 0)]).terms, ())

    def test_great_coefficients(self):
        great = 10 ** 999
        self.assertEqual(Polynomial([(("r",), great), (("r",), -1)]).terms, ((("r",), great - 1),))
        self.assertEqual(Polynomial([(("r",), great), (("r",), -great)]).terms, ())

    def test_arguments_are_neither_kept_nor_changed(self):
        terms = [(("s",), 2), (("r",), 1), (("s",), 1)]
        made = Polynomial(terms)
        self.assertEqual(terms, [(("s",), 2), (("r",), 1), (("s",), 1)])
        terms.append((("t",), 1))
        terms[0] = ((), 1)
        self.assertEqual(made.terms, ((("r",), 1), (("s",), 3)))
        self.assertEqual(Polynomial(terms=[(("r",), 1)]).terms, ((("r",), 1),))

    def test_invalid_terms(self):
        for value in [None, True, 0, "", "rs", {}, {("r",): 1}, Polynomial([]), nested(3), 10 ** 999]:
            with self.assertRaises(InvalidTerms):
                Polynomial(value)
        right = (("r",), 1)
        for value in no_terms():
            for terms in [[value], (value,), [right, value], [value, right], [(("r",), 0), right, value]]:
                with self.assertRaises(InvalidTerms, msg=repr(value)):
                    Polynomial(terms)
        self.assertEqual(Polynomial([right]).terms, (right,))


class Operators(unittest.TestCase):
    def test_all_of_them(self):
        random = Random(2)
        for _ in range(300):
            first, second = some_terms(random), some_terms(random)
            one, other = Polynomial(first), Polynomial(second)
            self.assertEqual((one + other).terms, told([*first, *second]))
            self.assertEqual((one - other).terms, told([*first, *[(monomial, -many) for monomial, many in second]]))
            products = [(tuple(sorted(a + b)), c * d) for a, c in first for b, d in second]
            self.assertEqual((one * other).terms, told(products))
            self.assertEqual([one.terms, other.terms], [told(first), told(second)])
            for made in [one + other, one - other, one * other]:
                self.assertIs(type(made), Polynomial)
            self.assertIs(one + other == other + one, True)
            self.assertIs(one * other == other * one, True)
            self.assertEqual((one - one).terms, ())

    def test_with_zero_and_one(self):
        zero, one, made = Polynomial([]), Polynomial([((), 1)]), Polynomial([(("r", "s"), -2), (("t",), 3)])
        self.assertEqual([made + zero, zero + made, made - zero, made * one, one * made], [made] * 5)
        self.assertEqual((zero - made).terms, ((("r", "s"), 2), (("t",), -3)))
        self.assertEqual([(made * zero).terms, (zero * made).terms, (zero + zero).terms], [(), (), ()])

    def test_equal_products_that_cancel(self):
        one = Polynomial([(("r",), 1), (("s",), 1)])
        other = Polynomial([(("r",), 1), (("s",), -1)])
        self.assertEqual((one * other).terms, ((("r", "r"), 1), (("s", "s"), -1)))

    def test_an_operand_twice(self):
        made = Polynomial([(("r",), 2)])
        self.assertEqual([(made + made).terms, (made * made).terms], [((("r",), 4),), ((("r", "r"), 4),)])

    def test_equality(self):
        made = Polynomial([(("r",), 1), (("s",), 2)])
        same = Polynomial(((("s",), 1), (("r",), 1), (("s",), 1), (("t",), 0)))
        self.assertIs(made == same, True)
        self.assertIs(made != same, False)
        self.assertIs(Polynomial([]) == Polynomial([((), 0)]), True)
        others = [
            Polynomial([(("r",), 1)]), Polynomial([(("r",), 1), (("s",), -2)]), Polynomial([]), made.terms,
            list(made.terms), str(made), *no_names(),
        ]
        for other in others:
            self.assertIs(made == other, False)
            self.assertIs(other == made, False)
            self.assertIs(made != other, True)
        for other in [0, (), None, False, "0", []]:
            self.assertIs(Polynomial([]) == other, False)


class Texts(unittest.TestCase):
    def test_told(self):
        texts = {
            "0": [],
            "1": [((), 1)],
            "-1": [((), -1)],
            "7": [((), 7)],
            "-12": [((), -12)],
            "r": [(("r",), 1)],
            "-r": [(("r",), -1)],
            "2 r": [(("r",), 2)],
            "-2 r": [(("r",), -2)],
            "r r s": [(("r", "r", "s"), 1)],
            "1 + r": [((), 1), (("r",), 1)],
            "-1 - r - 2 r s": [((), -1), (("r",), -1), (("r", "s"), -2)],
            "3 - r + 4 r s - 5 s": [((), 3), (("r",), -1), (("r", "s"), 4), (("s",), -5)],
            "-r s + s": [(("r", "s"), -1), (("s",), 1)],
            "r + row row rt": [(("row", "row", "rt"), 1), (("r",), 1)],
            "-11 a b + 10 b": [(("a", "b"), -11), (("b",), 10)],
            str(10 ** 999) + " r": [(("r",), 10 ** 999)],
        }
        for text, terms in texts.items():
            self.assertEqual(str(Polynomial(terms)), text)
            self.assertEqual(str(Polynomial(terms[::-1])), text)


def read_told(terms, measure, marks):
    """The sum over all terms, one mark added after the other."""
    found = measure.zero()
    for monomial, coefficient in terms:
        mark = measure.one()
        for name in monomial:
            mark = measure.times(mark, marks[name])
        for _ in range(coefficient):
            found = measure.plus(found, mark)
    return found


class Calls(unittest.TestCase):
    def test_as_one_mark_added_after_the_other(self):
        random = Random(4)
        for kind, choices in MARKS:
            for _ in range(150):
                terms = [(monomial, abs(many) * random.choice([1, 1, 3, 8])) for monomial, many in some_terms(random)]
                marks = {name: random.choice(choices) for name in "rst"}
                kept = dict(marks)
                found = Polynomial(terms)(kind(), marks)
                self.assertEqual(found, read_told(terms, kind(), marks))
                self.assertIs(type(found), type(read_told(terms, kind(), marks)))
                self.assertEqual(marks, kept)

    def test_of_sums_and_products(self):
        # Reading is a homomorphism: sums become sums, products become products.
        random = Random(6)
        for kind, choices in MARKS:
            for _ in range(60):
                first, second = some_terms(random), some_terms(random)
                one, other = [Polynomial([(each, abs(many)) for each, many in terms]) for terms in (first, second)]
                marks = {name: random.choice(choices) for name in "rst"}
                left, right = one(kind(), marks), other(kind(), marks)
                self.assertEqual((one + other)(kind(), marks), kind().plus(left, right))
                self.assertEqual((one * other)(kind(), marks), kind().times(left, right))

    def test_no_marks(self):
        for kind, _ in MARKS:
            measure = kind()
            self.assertEqual(Polynomial([])(measure, {}), measure.zero())
            self.assertEqual(Polynomial([((), 1)])(measure, {}), measure.one())
            self.assertEqual(Polynomial([((), 2)])(measure, {}), measure.plus(measure.one(), measure.one()))

    def test_great_coefficients(self):
        for many in [2, 3, 4, 5, 7, 8, 1023, 1024, GREAT, 10 ** 30 - 1]:
            measure = SmallNumbers()
            self.assertEqual(Polynomial([(("r", "s"), many), ((), 1)])(measure, {"r": 3, "s": 5}), 15 * many + 1)
            self.assertLess(measure.asked, 400)
            marks = {"r": ((("a",), 2), (("b",), 1))}
            self.assertEqual(
                Polynomial([(("r",), many)])(Polynomials(), marks), ((("a",), 2 * many), (("b",), many)))
            self.assertEqual(Polynomial([(("r",), many)])(Cheapest(), {"r": 9}), 9)
            self.assertIs(Polynomial([(("r",), many)])(Holds(), {"r": True}), True)
            self.assertEqual(Polynomial([(("r",), many)])(Why(), {"r": (("a",), ("b",))}), (("a",), ("b",)))

    def test_other_keys_mean_nothing(self):
        marks = {"s": -1, 5: None, None: 1, ("r",): [], "r": 4}
        self.assertEqual(Polynomial([(("r", "r"), 2)])(Numbers(), marks), 32)
        self.assertEqual(len(marks), 5)

    def test_keywords(self):
        self.assertEqual(Polynomial([(("r",), 2)])(marks={"r": 3}, measure=Numbers()), 6)


class WrongCalls(unittest.TestCase):
    def name_of(self, polynomial, measure, marks):
        with self.assertRaises(InvalidMarks) as caught:
            polynomial(measure, marks)
        return caught.exception.name

    def test_no_dict(self):
        for value in [value for value in no_names() if not isinstance(value, dict)]:
            for terms in [[], [((), 3)], [((), -3)], [(("r",), 1)], [(("r",), -1)]]:
                self.assertIsNone(self.name_of(Polynomial(terms), Numbers(), value))

    def test_missing_and_wrong_marks(self):
        made = Polynomial([(("s",), 1), (("t", "t"), 2), (("r", "t"), 1)])
        self.assertEqual(self.name_of(made, Numbers(), {}), "r")
        self.assertEqual(self.name_of(made, Numbers(), {"r": 1, "t": 1}), "s")
        self.assertEqual(self.name_of(made, Numbers(), {"r": 1, "s": 1}), "t")
        for value in [None, True, -1, "1", (), [1], {}, made]:
            self.assertEqual(self.name_of(made, Numbers(), {"r": 1, "s": value, "t": value}), "s")
            self.assertEqual(self.name_of(made, Numbers(), {"r": value}), "r")
            self.assertEqual(self.name_of(made, Numbers(), {"t": value, "s": 1, "r": 1}), "t")
        for value in [0, 1, None]:
            self.assertEqual(self.name_of(made, Holds(), {"r": True, "s": value, "t": True}), "s")

    def test_the_least_of_many_names(self):
        names = sorted(left + right for left in "klmnop" for right in "klmnop")
        made = Polynomial([((name,), 1) for name in names])
        for k, name in enumerate(names):
            marks = {other: 1 for other in names[:k]}
            self.assertEqual(self.name_of(made, Numbers(), marks), name)

    def test_a_missing_name_has_not_the_mark_none(self):
        made = Polynomial([(("r", "s"), 1)])
        self.assertEqual(self.name_of(made, Cheapest(), {"s": 1}), "r")
        self.assertEqual(self.name_of(made, Which(), {"r": None}), "s")
        self.assertIsNone(made(Which(), {"r": None, "s": ()}))

    def test_names_of_terms_that_are_0_are_not_asked_for(self):
        made = Polynomial([(("r",), 1), (("q",), 1), (("q",), -1), (("p",), 0)])
        self.assertEqual(made(Numbers(), {"r": 2}), 2)

    def test_negative_terms(self):
        cases = [
            ([((), -1)], ()), ([(("r",), -1), (("q",), 1)], ("r",)),
            ([(("r", "s"), -1), (("r",), 2), (("s",), -2)], ("r", "s")),
            ([(("s",), -1), (("r", "s"), 5), (("r", "r"), -7)], ("r", "r")), ([(("s",), -GREAT), ((), 1)], ("s",)),
        ]
        marks = {"q": 0, "r": 0, "s": 0}
        for terms, least in cases:
            with self.assertRaises(NegativeTerm) as caught:
                Polynomial(terms)(Numbers(), marks)
            self.assertEqual(caught.exception.monomial, least)
            self.assertIs(type(caught.exception.monomial), tuple)

    def test_wrong_marks_come_before_negative_terms(self):
        made = Polynomial([((), -1), (("r",), -1), (("s",), 1)])
        self.assertEqual(self.name_of(made, Numbers(), {"r": 1}), "s")
        self.assertEqual(self.name_of(made, Numbers(), {"r": -1, "s": 1}), "r")
        self.assertIsNone(self.name_of(made, Numbers(), None))


class Examples(unittest.TestCase):
    def test_of_the_document(self):
        one = Polynomial([(("r", "s"), 2), ((), 1)])
        other = Polynomial([(("r",), 1)])
        self.assertEqual(
            [str(one * other - other), other(Cheapest(), {"r": 4}),
             (one + other)(Cheapest(), {"r": 4, "s": 1})],
            ["2 r r s", 4, 0])


if __name__ == "__main__":
    unittest.main()
