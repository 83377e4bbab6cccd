"""Values of every kind that may be passed where an error is described, for several tests."""

from marktables.measures import Numbers, Why
from marktables.polynomials import Polynomial
from marktables.queries import Query
from marktables.tables import Tables
from marktables.unions import Union


def nested(depth):
    value = ()
    for _ in range(depth):
        value = (value,)
    return value


def no_names():
    """Values of every kind, none of which is a name."""
    query = Query(("x",), [("edge", ("x", "y"))])
    tables = Tables([("r", "edge", (1, 2))])
    polynomial = Polynomial([(("r",), 2)])
    return [
        None, True, False, 0, 1, -3, 10 ** 999, "", "abcdefghi", "A", "aB", "a1", "a b", " a", "a ", "a\n", "_", "-",
        (), ("x",), [], ["x"], {}, {"x": 1}, query, Union(query), nested(50), [("x",)] * 2000,
        tables, Tables([]), polynomial, Polynomial([]), Numbers(), Why(), [tables, {"x": [polynomial, query]}],
    ]
