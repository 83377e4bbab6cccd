"""Marks that are numbers by which two unions are told apart."""

from marktables.integers import is_plain_integer
from marktables.marks import is_number
from marktables.measures import Numbers
from marktables.polynomials import Polynomial
from marktables.queries import check_alike, normal
from marktables.tables import Tables, polynomial_answers
from marktables.witness import answer_at, weighed, witness


def apart(one, other):
    """None if the unions are equal for numbers, or a tuple (side, number, weights) that tells them apart."""
    check_alike(one.queries, other.queries)
    found = _parting_query(one, other)
    if found is None:
        return None
    side, number = found
    union = other if side == 1 else one
    rows, head = witness(union.queries[number])
    difference = _answer(rows, head, one) - _answer(rows, head, other)
    weights = []
    for row in rows:
        weight = 0
        while _with_number(difference, row[0], weight) == Polynomial(()):
            weight += 1
        weights.append(weight)
        difference = _with_number(difference, row[0], weight)
    return side, number, tuple(weights)


def check_apart(one, other, value):
    """Whether the value, which may be any value, is a tuple that tells the unions apart."""
    check_alike(one.queries, other.queries)
    if not isinstance(value, tuple) or len(value) != 3:
        return False
    side, number, weights = value
    if not is_plain_integer(side) or side not in (0, 1):
        return False
    union = other if side == 1 else one
    if not is_plain_integer(number) or not 0 <= number < len(union) or not isinstance(weights, tuple):
        return False
    rows, head = witness(union.queries[number])
    if len(weights) != len(rows) or not all([is_number(weight) for weight in weights]):
        return False
    marks = weighed(rows, weights)
    left = answer_at(rows, head, one, Numbers(), marks)
    return left != answer_at(rows, head, other, Numbers(), marks)


def _parting_query(one, other):
    """The side and the number of a query that does not stand in both unions as often, or None.

    It has as many variables as such a query can have. So queries with more variables put the same into the answers
    of both unions on its rows, those with fewer put nothing into the coefficient of all its atoms, and the answers
    are different polynomials.
    """
    sides = [[normal(query) for query in union.queries] for union in (one, other)]
    found = []
    for side, queries in enumerate(sides):
        for number, query in enumerate(queries):
            if sides[0].count(query) != sides[1].count(query):
                found.append((-len(query.variables), side, number))
    if not found:
        return None
    _, side, number = min(found)
    return side, number


def _answer(rows, head, union):
    """The polynomial answer of the union at this answer row."""
    return polynomial_answers(Tables(rows), union).get(head, Polynomial(()))


def _with_number(polynomial, name, number):
    """The polynomial with a number in place of a name."""
    terms = []
    for monomial, coefficient in polynomial.terms:
        amount = coefficient
        for _ in range(monomial.count(name)):
            amount = amount * number
        terms.append((tuple([other for other in monomial if other != name]), amount))
    return Polynomial(terms)
