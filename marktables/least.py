"""Cores of queries, and least unions with the same answers."""

from marktables.errors import UnknownMeasure
from marktables.groupings import single_atoms
from marktables.maps import atom_counts, composed, map_error, maps
from marktables.measures import Bags, Counted, Holds, Polynomials, Why
from marktables.queries import Query, different_atoms, moved_atoms
from marktables.unions import Union
from marktables.within import within


def core(query):
    """A tuple of a least query that is equal to the query for holds, and a map from the query to it."""
    small = single_atoms(query)
    value = query.variables
    folding = _folding(small)
    while folding is not None:
        smaller = Query(small.head, sorted(set(moved_atoms(small, folding))))
        value = composed(query, small, smaller, value, folding)
        small = smaller
        folding = _folding(small)
    return small, value


def check_core(query, value):
    """Whether the value, which may be any value, is a core of the query and a map to it."""
    if not isinstance(value, tuple) or len(value) != 2 or not isinstance(value[0], Query):
        return False
    small, moved = value
    if small.head != query.head or list(small.atoms) != different_atoms(small):
        return False
    if not all([atom in query.atoms for atom in small.atoms]):
        return False
    return map_error(query, small, moved) is None and _folding(small) is None


def least(union, measure):
    """The least union that is equal to the union for the measure."""
    queries = list(union.queries)
    if isinstance(measure, Holds):
        queries = [core(query)[0] for query in _needed(queries, measure)]
    elif isinstance(measure, Why):
        queries = [single_atoms(query) for query in _needed(queries, measure)]
    elif isinstance(measure, Bags):
        queries = _needed(queries, measure)
    elif isinstance(measure, Counted):
        queries = [single_atoms(query) for query in queries]
    elif not isinstance(measure, Polynomials):
        raise UnknownMeasure("no least unions for this measure")
    return Union(*queries)


def _folding(query):
    """The first map from the query to itself that does not meet all of its atoms, or None."""
    for value in maps(query, query):
        if min(atom_counts(query, query, value)) == 0:
            return value
    return None


def _needed(queries, measure):
    """Some of the queries, none of them within another one, such that each is within one of them."""
    needed = list(queries)
    for query in queries:
        # What stands there twice leaves once: each query is looked at while those that left are away.
        at = needed.index(query)
        others = [*needed[:at], *needed[at + 1:]]
        if any([within(Union(query), Union(each), measure)[0] == "yes" for each in others]):
            needed = others
    return needed
