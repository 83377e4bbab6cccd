"""Maps from a query to a query, what they meet, and which kind they are."""

from marktables.errors import InvalidKind, InvalidMap
from marktables.queries import check_alike, different_atoms, moved_atoms, moved_head
from marktables.search import assignments, choices_of

# Each kind is a case of those before it.
KINDS = ("into", "onto", "exact")


def maps(source, goal):
    """All maps from the source to the goal, in ascending order."""
    check_alike([source], [goal])
    # The head is one more choice: there is one tuple that it may become.
    choices = [(source.head, [goal.head]), *choices_of(source.atoms, different_atoms(goal))]
    yield from assignments(source.variables, choices)


def map_error(source, goal, value):
    """The first reason why the value, which may be any value, is no map, or None."""
    check_alike([source], [goal])
    if not _leads_to_variables(source, goal, value):
        return ("map",)
    if moved_head(source, value) != goal.head:
        return ("head",)
    for k, atom in enumerate(moved_atoms(source, value)):
        if atom not in goal.atoms:
            return ("atom", k)
    return None


def counts(source, goal, value):
    """For each different atom of the goal, in ascending order, how many atoms of the source become it."""
    _check_map(source, goal, value)
    return atom_counts(source, goal, value)


def kind(source, goal, value):
    """Which kind the map is: "exact", else "onto", else "into"."""
    _check_map(source, goal, value)
    return KINDS[_rank_of_map(source, goal, value)]


def first_map(source, goal, wanted):
    """The least map that is of the wanted kind, or of one that is a case of it, or None."""
    check_alike([source], [goal])
    if wanted not in KINDS:
        raise InvalidKind("not a kind of maps")
    least = KINDS.index(wanted)
    for value in maps(source, goal):
        if _rank_of_map(source, goal, value) >= least:
            return value
    return None


def composed(source, middle, goal, first, second):
    """The map that leads each variable where the second map leads its image by the first one."""
    _check_map(source, middle, first)
    _check_map(middle, goal, second)
    last = dict(zip(middle.variables, second))
    return tuple([last[variable] for variable in first])


def atom_counts(source, goal, value):
    """What counts returns, for a value that is known to be a map."""
    made = moved_atoms(source, value)
    return tuple([made.count(atom) for atom in different_atoms(goal)])


def _check_map(source, goal, value):
    """Raises InvalidMap if the value is not a map from the source to the goal."""
    if map_error(source, goal, value) is not None:
        raise InvalidMap("not a map between these queries")


def _leads_to_variables(source, goal, value):
    """Whether the value is a tuple of variables of the goal, one for each variable of the source."""
    if not isinstance(value, tuple) or len(value) != len(source.variables):
        return False
    return all([entry in goal.variables for entry in value])


def _rank_of_map(source, goal, value):
    """The place in KINDS of the kind of a value that is known to be a map."""
    met = atom_counts(source, goal, value)
    if met == tuple([goal.atoms.count(atom) for atom in different_atoms(goal)]):
        return KINDS.index("exact")
    if min(met) >= 1:
        return KINDS.index("onto")
    return KINDS.index("into")
