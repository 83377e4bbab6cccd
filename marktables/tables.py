"""Databases of rows with names, the ways of queries in them, and the answers of unions."""

from marktables.errors import InvalidTables
from marktables.evaluation import check_marks, evaluated
from marktables.integers import is_plain_integer
from marktables.names import is_name
from marktables.polynomials import Polynomial
from marktables.queries import moved_atoms, moved_head
from marktables.search import assignments, choices_of

MOST_VALUES = 3
GREATEST_VALUE = 10 ** 9


class Tables:
    """A database: rows, which are tuples (name, table, values) with different names."""

    MOST_ROWS = 6

    def __init__(self, rows):
        reason = _tables_error(rows)
        if reason is not None:
            raise InvalidTables(reason)
        self._rows = tuple(sorted([(name, table, tuple(values)) for name, table, values in rows]))

    @property
    def rows(self):
        """The ascending tuple of the rows."""
        return self._rows

    @property
    def names(self):
        """The ascending tuple of the names of the rows."""
        return tuple([row[0] for row in self._rows])

    def __len__(self):
        return len(self._rows)

    def __contains__(self, value):
        # A boolean is equal to an integer for Python, so only what is a row is compared.
        return _is_row(value) and value in self._rows

    def __eq__(self, other):
        return isinstance(other, Tables) and self._rows == other._rows


def ways(tables, query):
    """All ways of the query in the database, in ascending order."""
    facts = [(table, values) for _, table, values in tables.rows]
    choices = choices_of(query.atoms, facts)
    yield from assignments(query.variables, choices)


def answers(tables, union, measure, marks):
    """A dict from the answer rows to the sums, by the measure, of the products of the marks of the used rows."""
    check_marks(tables.names, measure, marks)
    found = _gathered(tables, union)
    sums = evaluated(list(found.values()), measure, marks)
    return dict(zip(found, sums))


def polynomial_answers(tables, union):
    """A dict from the answer rows to their polynomials, where the mark of each row is its name."""
    found = _gathered(tables, union)
    return {head: Polynomial(terms) for head, terms in found.items()}


def _gathered(tables, union):
    """A dict from the answer rows, ascending, to lists of terms: names of used rows and a number of ways."""
    name_of = {(table, values): name for name, table, values in tables.rows}
    found = {}
    for query in union.queries:
        for way in ways(tables, query):
            monomial = tuple(sorted([name_of[atom] for atom in moved_atoms(query, way)]))
            terms = found.setdefault(moved_head(query, way), {})
            terms[monomial] = terms.get(monomial, 0) + 1
    return {head: sorted(found[head].items()) for head in sorted(found)}


def _tables_error(rows):
    """The first reason why these are no database, or None."""
    if not isinstance(rows, (list, tuple)) or len(rows) > Tables.MOST_ROWS:
        return ("rows",)
    names = set()
    places = {}
    contents = set()
    for k, row in enumerate(rows):
        if not _is_row(row):
            return ("row", k)
        name, table, values = row
        if name in names:
            return ("name", k)
        if places.setdefault(table, len(values)) != len(values):
            return ("places", k)
        if (table, values) in contents:
            return ("repeated", k)
        names.add(name)
        contents.add((table, values))
    return None


def _is_row(value):
    """Whether the value, which may be any value, is a tuple of a name, a table and a tuple of values."""
    if not isinstance(value, tuple) or len(value) != 3:
        return False
    name, table, values = value
    if not is_name(name) or not is_name(table) or not isinstance(values, tuple):
        return False
    return 1 <= len(values) <= MOST_VALUES and all([_is_value(entry) for entry in values])


def _is_value(value):
    """Whether the value, which may be any value, is an integer within the bounds for rows."""
    return is_plain_integer(value) and -GREATEST_VALUE <= value <= GREATEST_VALUE
