"""A desk: a database and unions with titles, that change by deeds which can be undone and done once more."""

from marktables.errors import (
    InvalidDeed, InvalidDeeds, InvalidName, KnownTitle, NothingToRedo, NothingToUndo, UnknownRow, UnknownTitle)
from marktables.names import is_name
from marktables.reading import changes
from marktables.tables import Tables, polynomial_answers

WORDS = ("put", "take", "drop")


class Desk:
    """Holds a database, and unions by titles; the dict of these is never changed, only replaced."""

    def __init__(self, rows=()):
        self._tables = Tables(rows)
        self._unions = {}
        # Tuples of a deed and the states before and after it; a state is a tuple of the database and the unions.
        self._done = []
        self._undone = []
        self._seen = {}

    @property
    def tables(self):
        """The database."""
        return self._tables

    @property
    def titles(self):
        """The ascending tuple of the titles."""
        return tuple(sorted(self._unions))

    @property
    def log(self):
        """The tuple of the deeds that were done and not undone."""
        return tuple([deed for deed, _, _ in self._done])

    def put(self, row):
        """Adds a row."""
        self._do(("put", row), _with_row(self._tables, row), self._unions)

    def take(self, name):
        """Removes the row with this name."""
        self._do(("take", name), _without_row(self._tables, name), self._unions)

    def watch(self, title, union):
        """Keeps the union under the title."""
        if not is_name(title):
            raise InvalidName("not a name")
        if title in self._unions:
            raise KnownTitle(title)
        self._do(("watch", title), self._tables, {**self._unions, title: union})

    def drop(self, title):
        """Removes the union with this title."""
        self._do(("drop", title), self._tables, _without_title(self._unions, title))

    def answer(self, title):
        """The polynomial answers of the union with this title in the database as it is now."""
        _check_title(self._unions, title)
        return polynomial_answers(self._tables, self._unions[title])

    def news(self, title):
        """By how much the polynomial answers are more than at the last call since the title came, where not 0."""
        found = self.answer(title)
        told = changes(self._seen.get(title, {}), found)
        self._seen[title] = found
        return told

    def back(self):
        """Undoes the last deed that is done and not undone."""
        if not self._done:
            raise NothingToUndo("no deed is done")
        step = self._done.pop()
        self._undone.append(step)
        self._take_state(step[1])

    def again(self):
        """Does once more the deed that was undone last."""
        if not self._undone:
            raise NothingToRedo("no deed is undone")
        step = self._undone.pop()
        self._done.append(step)
        self._take_state(step[2])

    def attempt(self, deeds):
        """Does several deeds as one, all or none."""
        if not isinstance(deeds, (list, tuple)):
            raise InvalidDeeds("not a list or tuple of deeds")
        tables, unions = self._tables, self._unions
        for k, deed in enumerate(deeds):
            if not _is_deed(deed):
                raise InvalidDeed(k)
            tables, unions = _after_deed(tables, unions, deed)
        if len(deeds) > 0:
            self._do(("attempt", len(deeds)), tables, unions)

    def _do(self, deed, tables, unions):
        """Does a deed that leads to this database and these unions."""
        after = (tables, unions)
        self._done.append((deed, (self._tables, self._unions), after))
        self._undone = []
        self._take_state(after)

    def _take_state(self, state):
        """Takes over the state; what was seen of a title is forgotten where the title goes."""
        self._tables, self._unions = state
        self._seen = {title: answers for title, answers in self._seen.items() if title in self._unions}


def _with_row(tables, row):
    """The database with this further row."""
    return Tables([*tables.rows, row])


def _without_row(tables, name):
    """The database without the row with this name."""
    if name not in tables.names:
        raise UnknownRow(name)
    return Tables([row for row in tables.rows if row[0] != name])


def _check_title(unions, title):
    """Raises UnknownTitle if there is no union with this title, which may be any value."""
    # Only a name is looked up, as other values may be no keys.
    if not is_name(title) or title not in unions:
        raise UnknownTitle(title)


def _without_title(unions, title):
    """The dict of the unions without this title."""
    _check_title(unions, title)
    return {other: union for other, union in unions.items() if other != title}


def _is_deed(value):
    """Whether the value, which may be any value, is a tuple of a word for a deed and one more entry."""
    return isinstance(value, tuple) and len(value) == 2 and value[0] in WORDS


def _after_deed(tables, unions, deed):
    """The database and the unions after a deed of an attempt."""
    word, value = deed
    if word == "put":
        return _with_row(tables, value), unions
    if word == "take":
        return _without_row(tables, value), unions
    return tables, _without_title(unions, value)
