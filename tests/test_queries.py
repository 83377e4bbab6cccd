import unittest
from itertools import permutations, product

from marktables.errors import InvalidMap, InvalidQuery, InvalidText, OtherHeads, OtherPlaces
from marktables.names import is_name
from marktables.queries import Query, check_alike, isomorphism, normal
from marktables.unions import Union
from values import no_names, nested

EDGE = ("edge", ("x", "y"))
TEXTS = [
    "<- a x",
    "<- a x, a x",
    "<- a x y, a y z",
    "x <- a x y",
    "x <- a x y, a x z",
    "y x <- edge x z, edge z y",
    "q p <- edge p r, edge r q",
    "x x <- a x x x",
    "x y x <- a x y",
    "z <- a z z, b z y",
    "<- a v w, a w x, a x y, a y z, a z v",
    "<- a p q, a q r, a r s, a s t, a t p",
    "<- a v w, a v w, a w x, a x y, a y z, a z v",
    "v <- a v w, a w x, a x y, a y z, a z v",
    "x <- a x y, a x y, a y z",
    "y <- a y x, a y x, a x z",
    "x <- a x y, a y z, a y z",
]


def query(text):
    """The query of a text whose atoms may stand in any order; made without Query.read."""
    head, rest = text.split("<-")
    atoms = [tuple(part.split()) for part in rest.split(",")]
    return Query(tuple(head.split()), [(atom[0], atom[1:]) for atom in atoms])


def reason_of(head, atoms):
    try:
        Query(head, atoms)
    except InvalidQuery as error:
        return error.reason
    return None


class Names(unittest.TestCase):
    def test_names(self):
        for value in ["a", "z", "edge", "abcdefgh", "zzzzzzzz"]:
            self.assertIs(is_name(value), True)

    def test_no_names(self):
        for value in no_names():
            self.assertIs(is_name(value), False)


class Reasons(unittest.TestCase):
    def test_queries(self):
        self.assertIsNone(reason_of((), [("a", ("x",))]))
        self.assertIsNone(reason_of(("x", "x", "x"), (("a", ("x",)),)))
        self.assertIsNone(reason_of(("x",), [("abcdefgh", ("x", "abcdefgh", "x"))] * 6))
        self.assertIsNone(reason_of((), [("a", ("v", "w", "x")), ("b", ("y", "z"))]))

    def test_head(self):
        for value in [None, True, 0, "", "x", "xyz", [], ["x"], {}, {"x": 1}, Query((), [EDGE]), nested(50)]:
            self.assertEqual(reason_of(value, [EDGE]), ("head",))
        for value in no_names():
            self.assertEqual(reason_of((value,), [EDGE]), ("head",))
            self.assertEqual(reason_of(("x", "y", value), [EDGE]), ("head",))
        self.assertEqual(reason_of(("x", "y", "x", "y"), [EDGE]), ("head",))

    def test_atoms(self):
        for value in [None, True, 1, "", "edge", [], (), {}, {"edge": ("x", "y")}, Query((), [EDGE])]:
            self.assertEqual(reason_of((), value), ("atoms",))
        self.assertEqual(reason_of((), [EDGE] * 7), ("atoms",))
        self.assertEqual(reason_of((), (EDGE,) * 7), ("atoms",))
        self.assertIsNone(reason_of((), (EDGE,) * 6))

    def test_atom(self):
        for value in no_names():
            wrong = [value, (value, ("x", "y")), ("edge", (value,)), ("edge", ("x", value)), ("edge", (value, "y"))]
            for atom in wrong:
                self.assertEqual(reason_of((), [atom]), ("atom", 0))
                self.assertEqual(reason_of((), [EDGE, EDGE, atom]), ("atom", 2))
        shapes = [
            ("edge",), ("edge", ("x",), ()), ("edge", "x", "y"), ["edge", ("x", "y")], ("edge", ["x", "y"]),
            ("edge", ()), ("edge", ("x", "y", "x", "y")), ("edge", "xy"), "ab", ("edge", None), ("edge", {"x": 1}),
        ]
        for atom in shapes:
            self.assertEqual(reason_of(("x",), (EDGE, atom, atom)), ("atom", 1))

    def test_places(self):
        one, two, three = ("a", ("x",)), ("a", ("x", "x")), ("a", ("x", "y", "z"))
        self.assertEqual(reason_of((), [one, two]), ("places", 1))
        self.assertEqual(reason_of((), [two, two, three, one]), ("places", 2))
        self.assertEqual(reason_of((), [three, EDGE, EDGE, three, one, two]), ("places", 4))
        self.assertIsNone(reason_of((), [three, ("b", ("x",)), three]))

    def test_variable(self):
        self.assertEqual(reason_of(("u",), [EDGE]), ("variable", 0))
        self.assertEqual(reason_of(("y", "edge"), [EDGE]), ("variable", 1))
        self.assertEqual(reason_of(("x", "y", "u"), [EDGE]), ("variable", 2))
        self.assertEqual(reason_of(("x", "u", "w"), [EDGE]), ("variable", 1))

    def test_variables(self):
        five = [("a", ("p", "q")), ("a", ("r", "s")), ("a", ("t", "t"))]
        self.assertIsNone(reason_of((), five))
        self.assertEqual(reason_of((), [*five, ("a", ("p", "u"))]), ("variables",))
        self.assertEqual(reason_of((), [("a", ("p", "q", "r")), ("b", ("s", "t", "u"))]), ("variables",))

    def test_order(self):
        six = [("b", ("p", "q", "r")), ("b", ("s", "t", "u"))]
        clash = [("a", ("p",)), ("a", ("p", "q"))]
        self.assertEqual(reason_of("x", []), ("head",))
        self.assertEqual(reason_of(["x"], [None]), ("head",))
        self.assertEqual(reason_of(("u", "u", "u", "u"), clash), ("head",))
        self.assertEqual(reason_of(("w",), [None] * 7), ("atoms",))
        self.assertEqual(reason_of(("w",), [*clash, None]), ("atom", 2))
        self.assertEqual(reason_of(("w",), [*six, *clash]), ("places", 3))
        self.assertEqual(reason_of(("w",), six), ("variable", 0))
        self.assertEqual(reason_of(("p",), six), ("variables",))


class Properties(unittest.TestCase):
    def test_values(self):
        atoms = [("z", ("y", "x")), ("b", ("q",)), ("z", ("x", "y")), ("b", ("q",))]
        made = Query(("y", "x", "y"), atoms)
        self.assertEqual(made.head, ("y", "x", "y"))
        self.assertEqual(made.atoms, (("b", ("q",)), ("b", ("q",)), ("z", ("x", "y")), ("z", ("y", "x"))))
        self.assertEqual(made.variables, ("q", "x", "y"))
        self.assertEqual(list(made.places.items()), [("b", 1), ("z", 2)])
        for value in [made.head, made.atoms, made.variables]:
            self.assertIs(type(value), tuple)
        self.assertIs(type(made.places), dict)

    def test_places_are_new_dicts(self):
        made = Query((), [EDGE])
        first = made.places
        first["edge"] = 3
        first["other"] = 1
        self.assertEqual(made.places, {"edge": 2})
        self.assertIsNot(made.places, made.places)

    def test_arguments_are_neither_kept_nor_changed(self):
        atoms = [("b", ("x",)), ("a", ("y",))]
        made = Query(("x",), atoms)
        self.assertEqual(atoms, [("b", ("x",)), ("a", ("y",))])
        atoms.append(("a", ("z",)))
        atoms[0] = ("c", ("x", "x"))
        self.assertEqual(made, Query(("x",), (("a", ("y",)), ("b", ("x",)))))

    def test_equality(self):
        made = Query(("x",), [EDGE, ("a", ("x",))])
        self.assertIs(made == Query(("x",), (("a", ("x",)), EDGE)), True)
        self.assertIs(made != Query(("x",), (("a", ("x",)), EDGE)), False)
        others = [
            Query(("y",), [EDGE, ("a", ("x",))]), Query((), [EDGE, ("a", ("x",))]), Query(("x",), [EDGE]),
            Query(("x",), [EDGE, EDGE, ("a", ("x",))]), Union(made), str(made), (made.head, made.atoms), *no_names(),
        ]
        for other in others:
            self.assertIs(made == other, False)
            self.assertIs(other == made, False)
            self.assertIs(made != other, True)

    def test_keywords(self):
        self.assertEqual(Query(atoms=[EDGE], head=("x",)), Query(("x",), [EDGE]))


class Images(unittest.TestCase):
    def test_different_and_equal_names(self):
        made = query("y x <- edge x z, edge z y")
        self.assertEqual(made.image(("p", "q", "r")), query("q p <- edge p r, edge r q"))
        self.assertEqual(made.image(("y", "x", "z")), query("x y <- edge y z, edge z x"))
        self.assertEqual(made.image(("u", "u", "v")), query("u u <- edge u v, edge v u"))
        self.assertEqual(made.image(("u", "u", "u")), Query(("u", "u"), [("edge", ("u", "u"))] * 2))
        self.assertEqual(made, query("y x <- edge x z, edge z y"))

    def test_a_name_of_a_table_is_not_replaced(self):
        self.assertEqual(query("x <- x x y").image(("u", "v")), query("u <- x u v"))

    def test_invalid_maps(self):
        made = query("x <- edge x y")
        wrong = [
            None, True, 2, "", "xy", [], ["x", "y"], {"x": "u", "y": "v"}, (), ("x",), ("x", "y", "z"), made,
        ]
        wrong.extend([("x", value) for value in no_names()])
        wrong.extend([(value, "x") for value in no_names()])
        for value in wrong:
            with self.assertRaises(InvalidMap):
                made.image(value)


def least_image(made):
    """The normal query, found among the images under all tuples of the first letters."""
    letters = "abcde"[:len(made.variables)]
    images = [made.image(names) for names in product(letters, repeat=len(letters)) if len(set(names)) == len(letters)]
    return min(images, key=lambda image: (image.head, image.atoms))


def least_isomorphism(one, other):
    """The isomorphism, found among all tuples of different variables of both queries."""
    names = sorted({*one.variables, *other.variables})
    for image in permutations(names, len(one.variables)):
        if one.image(image) == other:
            return image
    return None


class Normals(unittest.TestCase):
    def test_normal(self):
        for text in TEXTS:
            made = query(text)
            self.assertEqual(normal(made), least_image(made))
            self.assertEqual(normal(normal(made)), normal(made))
            self.assertIs(type(normal(made)), Query)

    def test_normals_told(self):
        told = {
            "y x <- edge x z, edge z y": "a b <- edge b c, edge c a",
            "<- a v w, a v w, a w x, a x y, a y z, a z v": "<- a a b, a a b, a b c, a c d, a d e, a e a",
            "<- c x y, c y x, c y y": "<- c a a, c a b, c b a",
            "p q <- a q p, b q": "a b <- a b a, b b",
        }
        for text, least in told.items():
            self.assertEqual(str(normal(query(text))), least)

    def test_isomorphism(self):
        for one in TEXTS:
            for other in TEXTS:
                one_query, other_query = query(one), query(other)
                found = isomorphism(one_query, other_query)
                self.assertEqual(found, least_isomorphism(one_query, other_query))
                self.assertIs(found is not None, normal(one_query) == normal(other_query))
                if found is not None:
                    self.assertIs(type(found), tuple)

    def test_the_least_of_several(self):
        ring = query("<- a v w, a w x, a x y, a y z, a z v")
        self.assertEqual(isomorphism(ring, ring), ("v", "w", "x", "y", "z"))
        turned = ring.image(("z", "y", "x", "w", "v"))
        self.assertEqual(isomorphism(ring, turned), ("v", "z", "y", "x", "w"))
        star = query("x <- a x y, a x z")
        self.assertEqual(isomorphism(star, query("r <- a r p, a r q")), ("r", "p", "q"))

    def test_none_for_other_queries(self):
        made = query("x <- a x y")
        others = [
            "<- a x y", "y <- a x y", "x x <- a x y", "x <- a x y z", "x <- a x", "x <- b x y", "x <- a x x",
            "x <- a x y, a x y", "x <- a x y, a y x", "x <- a x y, b x",
        ]
        for text in others:
            self.assertIsNone(isomorphism(made, query(text)))
            self.assertIsNone(isomorphism(query(text), made))


class Texts(unittest.TestCase):
    def test_text(self):
        self.assertEqual(str(Query((), [("a", ("x",))])), "<- a x")
        self.assertEqual(str(Query(("y", "x"), [("b", ("x",)), ("a", ("y", "x"))])), "y x <- a y x, b x")
        self.assertEqual(str(Query(("x",), [("a", ("x",))] * 2)), "x <- a x, a x")
        self.assertEqual(
            str(Query(("zz", "zz", "x"), [("edge", ("x", "zz", "x"))])), "zz zz x <- edge x zz x")

    def test_read(self):
        for text in TEXTS:
            if str(query(text)) == text:
                self.assertEqual(Query.read(text), query(text))
            else:
                self.assert_invalid(text)
            self.assertEqual(Query.read(str(query(text))), query(text))
        self.assertIs(type(Query.read(text="<- a x")), Query)

    def assert_invalid(self, text):
        with self.assertRaises(InvalidText, msg=repr(text)):
            Query.read(text)

    def test_invalid_texts(self):
        texts = [
            "", " ", "<-", "<- ", " <-", "x", "x <-", "x <- ", "x <- a", "x <- x", "<- a", "a x", "-> a x", "< - a x",
            " <- a x", "<- a x ", "<-  a x", "<- a  x", "<-a x", "x<- a x", "x  <- a x", " x <- a x", "x <- a x,",
            "x <- a x, ", "x <- , a x", "x <- a x,, a x", "x <- a x,a x", "x <- a x , a x", "x <- a x,  a x",
            "x <- b x, a x", "x <- a y, a x", "y <- a x", "<- a x, a x y", "<- a v w x y", "x x x x <- a x",
            "<- A x", "<- a X", "<- a 1", "<- a abcdefghi", "<- abcdefghi a", "x, y <- a x y", "x <- a x <- a x",
            "x <- a x; a x", "<- a x y, b z v, c w u", ", ".join(["<- a x"] + ["a x"] * 6), "x" * 1000, "," * 1000,
            " " * 1000, "<-" * 500, "None", "()",
        ]
        for text in texts:
            self.assert_invalid(text)

    def test_doubled_atoms_are_other_queries(self):
        self.assertNotEqual(Query.read("x <- a x, a x"), Query.read("x <- a x"))
        self.assertEqual(len(Query.read(", ".join(["<- a x"] + ["a x"] * 5)).atoms), 6)

    def test_one_character_changed(self):
        alphabet = [chr(code) for code in range(32, 127)]
        for text in ["x <- a x y, b y", "<- a x"]:
            changed = [text[:k] + text[k + 1:] for k in range(len(text))]
            changed.extend([text[:k] + sign + text[k:] for k in range(len(text) + 1) for sign in alphabet])
            changed.extend([text[:k] + sign + text[k + 1:] for k in range(len(text)) for sign in alphabet])
            right = 0
            for other in changed:
                try:
                    made = Query.read(other)
                except InvalidText:
                    continue
                self.assertEqual(str(made), other)
                right += 1
            self.assertGreater(right, 26)
            self.assertLess(right, len(changed) // 2)


class Alike(unittest.TestCase):
    def test_heads_come_before_places(self):
        one, other = query("x <- a x"), query("<- a x y")
        with self.assertRaises(OtherHeads):
            check_alike([one], [other])
        with self.assertRaises(OtherPlaces):
            check_alike([one], [query("x <- a x y")])
        self.assertIsNone(check_alike([one], [query("y <- b x y")]))


class Examples(unittest.TestCase):
    def test_of_the_document(self):
        made = Query(("y", "x"), [("edge", ("x", "z")), ("edge", ("z", "y"))])
        self.assertEqual(
            [str(made), str(normal(made)), isomorphism(made, Query.read("q p <- edge p r, edge r q"))],
            ["y x <- edge x z, edge z y", "a b <- edge b c, edge c a", ("p", "q", "r")])


if __name__ == "__main__":
    unittest.main()
