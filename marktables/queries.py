"""Queries: a head and atoms over variables, their images, normal forms and texts."""

from itertools import permutations

from marktables.errors import InvalidMap, InvalidQuery, InvalidText, OtherHeads, OtherPlaces
from marktables.names import is_name, is_tuple_of_names

MOST_IN_HEAD = 3
MOST_ATOMS = 6
MOST_PLACES = 3
MOST_VARIABLES = 5
LETTERS = "abcde"


class Query:
    """A head, which is a tuple of variables, and atoms, which are tuples (table, variables)."""

    def __init__(self, head, atoms):
        reason = _query_error(head, atoms)
        if reason is not None:
            raise InvalidQuery(reason)
        self._head = tuple(head)
        self._atoms = tuple(sorted([(table, tuple(variables)) for table, variables in atoms]))
        self._variables = tuple(_different_variables(atoms))

    @property
    def head(self):
        """The tuple of the variables of the head."""
        return self._head

    @property
    def atoms(self):
        """The ascending tuple of the atoms, with repetitions."""
        return self._atoms

    @property
    def variables(self):
        """The ascending tuple of the different variables."""
        return self._variables

    @property
    def places(self):
        """A new dict from the tables, in ascending order, to their numbers of places."""
        return {table: len(variables) for table, variables in self._atoms}

    def image(self, names):
        """The query with names[k] in place of variable k, everywhere."""
        count = len(self._variables)
        if not is_tuple_of_names(names, count, count):
            raise InvalidMap("not a tuple of as many names as there are variables")
        head, atoms = _renamed(self, names)
        return Query(head, atoms)

    @classmethod
    def read(cls, text):
        """The query with this text."""
        head, _, rest = text.partition("<-")
        atoms = [_read_atom(part) for part in rest.split(",")]
        try:
            query = cls(tuple(head.split()), atoms)
        except InvalidQuery:
            raise InvalidText("no query has this text") from None
        # The parts are read leniently, so only the text of the result tells whether it is right.
        if str(query) != text:
            raise InvalidText("no query has this text")
        return query

    def __eq__(self, other):
        return isinstance(other, Query) and self._head == other._head and self._atoms == other._atoms

    def __str__(self):
        atoms = [" ".join([table, *variables]) for table, variables in self._atoms]
        return " ".join([*self._head, "<-", ", ".join(atoms)])


def normal(query):
    """Of all images under the first letters in some order, the one with the least (head, atoms)."""
    letters = LETTERS[:len(query.variables)]
    head, atoms = min([_renamed(query, names) for names in permutations(letters)])
    return Query(head, atoms)


def isomorphism(one, other):
    """The least tuple of different names with one.image(names) == other, or None."""
    # The names are those of the image, so they are the variables of the other query in some order.
    targets = list(other.variables)
    if len(targets) != len(one.variables):
        return None
    wanted = (other.head, other.atoms)
    for names in permutations(targets):
        if _renamed(one, names) == wanted:
            return names
    return None


def check_alike(ones, others):
    """Raises OtherHeads, then OtherPlaces, if the queries of the two lists cannot be compared.

    The queries of each list have heads of one length and tables of the same numbers of places.
    """
    if len(ones[0].head) != len(others[0].head):
        raise OtherHeads("the heads are not of one length")
    if first_clash([*ones, *others]) is not None:
        raise OtherPlaces("a table has different numbers of places")


def moved_head(query, values):
    """The tuple that the head becomes with values[k], a name or an integer, in place of variable k."""
    new = dict(zip(query.variables, values))
    return _replaced(query.head, new)


def moved_atoms(query, values):
    """The list of what the atoms, in their order, become with values[k] in place of variable k."""
    new = dict(zip(query.variables, values))
    return [(table, _replaced(variables, new)) for table, variables in query.atoms]


def different_atoms(query):
    """The ascending list of the atoms, each once."""
    return sorted(set(query.atoms))


def first_clash(queries):
    """The least k such that an earlier query has another number of places for a table of query k, or None."""
    known = {}
    for k, query in enumerate(queries):
        for table, count in query.places.items():
            if known.setdefault(table, count) != count:
                return k
    return None


def _query_error(head, atoms):
    """The first reason why these are no query, or None."""
    if not is_tuple_of_names(head, 0, MOST_IN_HEAD):
        return ("head",)
    if not isinstance(atoms, (list, tuple)) or not 1 <= len(atoms) <= MOST_ATOMS:
        return ("atoms",)
    for k, atom in enumerate(atoms):
        if not _is_atom(atom):
            return ("atom", k)
    places = {}
    for k, (table, names) in enumerate(atoms):
        if places.setdefault(table, len(names)) != len(names):
            return ("places", k)
    variables = _different_variables(atoms)
    for k, variable in enumerate(head):
        if variable not in variables:
            return ("variable", k)
    if len(variables) > MOST_VARIABLES:
        return ("variables",)
    return None


def _is_atom(value):
    """Whether the value, which may be any value, is a tuple of a table and variables."""
    if not isinstance(value, tuple) or len(value) != 2:
        return False
    table, variables = value
    return is_name(table) and is_tuple_of_names(variables, 1, MOST_PLACES)


def _different_variables(atoms):
    """The ascending list of the different variables of the atoms."""
    return sorted({variable for atom in atoms for variable in atom[1]})


def _renamed(query, names):
    """The head and the ascending tuple of the atoms with names[k] in place of variable k."""
    return moved_head(query, names), tuple(sorted(moved_atoms(query, names)))


def _replaced(variables, new):
    """The tuple of what the dict gives for each of the variables."""
    return tuple([new[variable] for variable in variables])


def _read_atom(part):
    """The table and the variables of a part of a text, also where they are no atom."""
    table, _, variables = part.strip().partition(" ")
    return table, tuple(variables.split())
