"""Polynomials: sums of terms, each a monomial of names with an integer coefficient."""

from marktables.errors import InvalidTerms, NegativeTerm
from marktables.evaluation import check_marks, evaluated
from marktables.integers import is_plain_integer
from marktables.names import is_monomial


class Polynomial:
    """The sum of terms (monomial, coefficient), in which a monomial may occur repeatedly."""

    def __init__(self, terms):
        if not _are_terms(terms):
            raise InvalidTerms("not a list or tuple of tuples (monomial, coefficient)")
        gathered = {}
        for monomial, coefficient in terms:
            gathered[tuple(monomial)] = gathered.get(monomial, 0) + coefficient
        self._terms = tuple(sorted([term for term in gathered.items() if term[1] != 0]))

    @property
    def terms(self):
        """The ascending tuple of the terms, each monomial once, without those with the coefficient 0."""
        return self._terms

    def __add__(self, other):
        return Polynomial([*self._terms, *other._terms])

    def __sub__(self, other):
        negative = [(monomial, -coefficient) for monomial, coefficient in other._terms]
        return Polynomial([*self._terms, *negative])

    def __mul__(self, other):
        terms = []
        for left, one in self._terms:
            for right, two in other._terms:
                terms.append((tuple(sorted([*left, *right])), one * two))
        return Polynomial(terms)

    def __call__(self, measure, marks):
        names = sorted({name for monomial, _ in self._terms for name in monomial})
        check_marks(names, measure, marks)
        for monomial, coefficient in self._terms:
            if coefficient < 0:
                raise NegativeTerm(monomial)
        return evaluated([self._terms], measure, marks)[0]

    def __eq__(self, other):
        return isinstance(other, Polynomial) and self._terms == other._terms

    def __str__(self):
        if not self._terms:
            return "0"
        return "".join([_signed(place, term) for place, term in enumerate(self._terms)])


def _are_terms(value):
    """Whether the value, which may be any value, is a list or tuple of terms."""
    return isinstance(value, (list, tuple)) and all([_is_term(entry) for entry in value])


def _is_term(value):
    """Whether the value, which may be any value, is a tuple of a monomial and an integer."""
    if not isinstance(value, tuple) or len(value) != 2:
        return False
    return is_monomial(value[0]) and is_plain_integer(value[1])


def _signed(place, term):
    """The text of a term that is the first one, at place 0, or a later one."""
    monomial, coefficient = term
    many = abs(coefficient)
    words = list(monomial) if many == 1 and monomial else [str(many), *monomial]
    return "".join([_sign(place, coefficient), " ".join(words)])


def _sign(place, coefficient):
    """What stands between a term and the one before it."""
    if place == 0:
        return "-" if coefficient < 0 else ""
    return " - " if coefficient < 0 else " + "
