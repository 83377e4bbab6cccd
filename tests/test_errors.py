import unittest

from marktables import errors

PLAIN = [
    "InvalidDeeds", "InvalidKind", "InvalidMap", "InvalidName", "InvalidNames", "InvalidTerms", "InvalidText",
    "NotImplied", "NothingToRedo", "NothingToUndo", "OtherHeads", "OtherPlaces", "UnknownMeasure",
]
HOLDING = {
    "InvalidDeed": "number", "InvalidMark": "value", "InvalidMarks": "name", "InvalidQuery": "reason",
    "InvalidTables": "reason", "InvalidUnion": "reason", "KnownTitle": "title", "NegativeTerm": "monomial",
    "TooMany": "count", "UnknownRow": "name", "UnknownTitle": "title",
}
VALUES = [None, True, 0, -1, 10 ** 999, "", "text", (), ("atom", 3), [1], {"a": 1}, ("a", ["b", {}])]


class Classes(unittest.TestCase):
    def test_every_error_is_a_mark_error_and_none_of_the_others(self):
        for name in [*PLAIN, *HOLDING]:
            kind = getattr(errors, name)
            own = [base.__name__ for base in kind.__mro__ if base.__module__.split(".")[0] == "marktables"]
            self.assertEqual(own, [name, "MarkError"])
            self.assertEqual(kind.__module__, "marktables.errors")
            self.assertTrue(issubclass(kind, ValueError))

    def test_the_base_class(self):
        self.assertEqual(errors.MarkError.__bases__, (ValueError,))
        self.assertEqual(errors.MarkError.__module__, "marktables.errors")

    def test_nothing_but_the_listed_classes(self):
        found = [name for name, value in vars(errors).items() if isinstance(value, type)]
        self.assertEqual(sorted(found), sorted(["MarkError", *PLAIN, *HOLDING]))


class Creation(unittest.TestCase):
    def test_without_an_argument_and_with_a_string(self):
        for name in ["MarkError", *PLAIN]:
            kind = getattr(errors, name)
            self.assertIsInstance(kind(), errors.MarkError)
            self.assertIn("some words", str(kind("some words")))

    def test_one_argument_by_position_and_by_name(self):
        for name, attribute in HOLDING.items():
            kind = getattr(errors, name)
            for value in VALUES:
                self.assertIs(getattr(kind(value), attribute), value)
                self.assertIs(getattr(kind(**{attribute: value}), attribute), value)

    def test_raised_and_caught_by_the_bases(self):
        for name in HOLDING:
            for base in (errors.MarkError, ValueError):
                with self.assertRaises(base):
                    raise getattr(errors, name)(("atom", 3))


if __name__ == "__main__":
    unittest.main()
