"""Which measures imply which others, and unions that show where one does not."""

from marktables.measures import Bags, Cheapest, Counted, Dearest, Holds, Polynomials, Which, Why, check_telling
from marktables.queries import Query, check_alike
from marktables.unions import Union
from marktables.within import within

# For each measure all that it implies.
IMPLIED = {
    "bags": ("bags", "cheapest", "dearest", "holds", "which", "why"),
    "cheapest": ("cheapest", "holds"),
    "counted": ("counted", "holds", "which", "why"),
    "dearest": ("dearest", "holds", "which"),
    "holds": ("holds",),
    "polynomials": ("bags", "cheapest", "counted", "dearest", "holds", "polynomials", "which", "why"),
    "which": ("holds", "which"),
    "why": ("holds", "which", "why"),
}
# Pairs of unions, one of which parts any two measures of which the first does not imply the second. A union is a
# tuple of queries, a query a head and one letter for each atom; a letter stands at every place of its atom.
EXAMPLES = (
    ((("", "x"),), (("", "xx"),)),
    ((("", "xx"),), (("", "x"),)),
    ((("", "x"), ("", "x")), (("", "x"),)),
    ((("x", "xy"),), (("x", "x"),)),
    ((("", "xy"),), (("", "xx"),)),
)


def implies(first, second):
    """Whether every union that is within another one for the first measure is so for the second."""
    check_telling(first)
    check_telling(second)
    return second.label in IMPLIED[first.label]


def parting(first, second, table, places):
    """None, or two unions over the table, the one within the other for the first measure, not for the second."""
    if implies(first, second):
        return None
    for left, right in EXAMPLES:
        one = _example(left, table, places)
        other = _example(right, table, places)
        if within(one, other, first)[0] == "yes" and within(one, other, second)[0] == "no":
            return one, other
    return None


def telling(one, other):
    """The ascending list of the labels of the measures for which the one union is not within the other."""
    check_alike(one.queries, other.queries)
    measures = [Bags(), Cheapest(), Counted(), Dearest(), Holds(), Polynomials(), Which(), Why()]
    return sorted([measure.label for measure in measures if within(one, other, measure)[0] == "no"])


def _example(queries, table, places):
    """The union that stands in a pair of the examples, over this table."""
    made = [Query(tuple(head), [(table, (letter,) * places) for letter in letters]) for head, letters in queries]
    return Union(*made)
