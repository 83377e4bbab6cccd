"""The database that a counterexample stands for, and what unions answer on it."""

from marktables.queries import moved_atoms, moved_head
from marktables.tables import Tables, answers

ROW_NAMES = ("ra", "rb", "rc", "rd", "re", "rf")


def witness(query):
    """The rows and the head row for a query: its distinct atoms and its head, with places for variables."""
    places = list(range(len(query.variables)))
    facts = sorted(set(moved_atoms(query, places)))
    rows = [(name, table, values) for name, (table, values) in zip(ROW_NAMES, facts)]
    return rows, moved_head(query, places)


def weighed(rows, weights):
    """A dict from the names of the rows to the weights."""
    return {row[0]: weight for row, weight in zip(rows, weights)}


def answer_at(rows, head, union, measure, marks):
    """The answer of the union at this answer row, on the database of the rows."""
    found = answers(Tables(rows), union, measure, marks)
    return found.get(head, measure.zero())
