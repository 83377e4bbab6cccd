"""The nine measures, with some marks of each: for several tests."""

from marktables.measures import Bags, Cheapest, Counted, Dearest, Holds, Numbers, Polynomials, Which, Why

CLASSES = [Holds, Which, Why, Bags, Cheapest, Dearest, Counted, Polynomials, Numbers]
# Those for which within is asked.
TELLING = CLASSES[:-1]
LABELS = ["holds", "which", "why", "bags", "cheapest", "dearest", "counted", "polynomials", "numbers"]
# For each measure some marks: plain ones, a zero, and some with two ways or monomials.
MARKS = [
    (Holds, [True, False]),
    (Which, [None, (), ("p",), ("o", "q")]),
    (Why, [(), ((),), (("p",),), (("o", "q"), ("p",))]),
    (Bags, [(), ((),), (("p",),), (("o", "o"), ("o", "p"))]),
    (Cheapest, [None, 0, 1, 7]),
    (Dearest, [None, 0, 1, 7]),
    (Counted, [(), (((), 1),), ((("p",), 1),), ((("o", "q"), 2), (("p",), 1))]),
    (Polynomials, [(), (((), 1),), ((("p",), 1),), ((("o", "o"), 2), (("p",), 1))]),
    (Numbers, [0, 1, 2, 5, 10 ** 30]),
]
