"""Pairings of groupings, for the measures that count."""

from marktables.groupings import groupings, is_grouping, shape
from marktables.integers import is_plain_integer
from marktables.names import is_tuple_of_names
from marktables.queries import isomorphism, normal

PAIRED = ("counted", "polynomials")


def found_pairings(one, other, label):
    """The answer whether one union is within the other by one of the two measures that count."""
    free = _free_groupings(other, label)
    paper = []
    for number, query in enumerate(one.queries):
        entry = []
        for grouping in groupings(query):
            grouped = labelled_shape(query, grouping, label)
            partners = free.get(_key(grouped), [])
            if not partners:
                return "no", number, grouping, ()
            j, partner = partners.pop(0)
            names = isomorphism(labelled_shape(other.queries[j], partner, label), grouped)
            entry.append((grouping, j, partner, names))
        paper.append(entry)
    return "yes", paper


def first_wrong_pairings(one, other, label, paper):
    """The least number of an entry, which may be any value, that is not as it should be, or None."""
    taken = set()
    for k, query in enumerate(one.queries):
        if not _are_pairings(query, other, label, paper[k]):
            return k
        for pairing in paper[k]:
            if (pairing[1], pairing[2]) in taken:
                return k
            taken.add((pairing[1], pairing[2]))
    return None


def labelled_shape(query, grouping, label):
    """The shape of the grouping by the measure with this label."""
    return shape(query, grouping, label == "counted")


def _free_groupings(other, label):
    """A dict from keys of shapes to lists of the groupings with such a shape, each with the number of its query."""
    found = {}
    for j, query in enumerate(other.queries):
        for grouping in groupings(query):
            key = _key(labelled_shape(query, grouping, label))
            found.setdefault(key, []).append((j, grouping))
    return found


def _key(query):
    """What is the same for two queries exactly if they are the same up to the names of variables."""
    least = normal(query)
    return least.head, least.atoms


def _are_pairings(query, other, label, value):
    """Whether the value is a list of one pairing for each grouping of the query, in order."""
    if not isinstance(value, list) or not all([isinstance(part, tuple) and len(part) == 4 for part in value]):
        return False
    wanted = list(groupings(query))
    if [part[0] for part in value] != wanted:
        return False
    return all([_is_pairing(query, other, label, part) for part in value])


def _is_pairing(query, other, label, value):
    """Whether the tuple of a grouping of the query and three values, which may be any values, is a pairing."""
    grouping, j, partner, names = value
    if not is_plain_integer(j) or not 0 <= j < len(other) or not is_grouping(other.queries[j], partner):
        return False
    given = labelled_shape(other.queries[j], partner, label)
    count = len(given.variables)
    if not is_tuple_of_names(names, count, count) or len(set(names)) != count:
        return False
    return given.image(names) == labelled_shape(query, grouping, label)
