import unittest
from inspect import isgenerator

from marktables.groupings import groupings
from marktables.queries import Query
from told import groupings_told

BELL = [1, 1, 2, 5, 15, 52]


class Groupings(unittest.TestCase):
    def test_told(self):
        self.assertEqual(list(groupings(Query.read("<- a x"))), [("x",)])
        self.assertEqual(list(groupings(Query.read("<- a x y"))), [("x", "x"), ("x", "y")])
        self.assertEqual(
            list(groupings(Query.read("y <- a z y, b x"))),
            [("x", "x", "x"), ("x", "x", "z"), ("x", "y", "x"), ("x", "y", "y"), ("x", "y", "z")])

    def test_all_in_ascending_order(self):
        for text in ["<- a x", "x <- a x y", "<- a x y, a y z", "<- a w x, a y z", "z v <- a v w, a x y, a x z",
                     "<- abc v, abc w, abc x, abc y, abc z", "<- a c abcdefgh, a zz b"]:
            query = Query.read(text)
            found = list(groupings(query))
            self.assertEqual(found, groupings_told(query))
            self.assertEqual(len(found), BELL[len(query.variables)])
            self.assertEqual(found, sorted(found))
            self.assertEqual(found[-1], query.variables)
            self.assertEqual({type(each) for each in found}, {tuple})
            self.assertEqual(list(groupings(query)), found)

    def test_a_generator(self):
        query = Query.read("x <- a x y")
        self.assertTrue(isgenerator(groupings(query)))
        self.assertEqual(next(groupings(query=query)), ("x", "x"))

    def test_each_gives_a_query(self):
        query = Query.read("x z <- a x y z, a z y x, b w")
        self.assertEqual(len({str(query.image(each)) for each in groupings(query)}), 15)


if __name__ == "__main__":
    unittest.main()
