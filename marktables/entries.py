"""Entries of papers that consist of maps into a query: how they are found, and what is right."""

from marktables.integers import is_plain_integer
from marktables.maps import atom_counts, map_error, maps
from marktables.mixtures import balanced

# The measures whose entries are one map each, and those whose entries are mixtures.
SINGLE = ("holds", "why", "bags")
MIXED = ("cheapest", "dearest")


def found_entry(query, other, label):
    """A tuple of an entry for the query, or None if there is none, and the weights of the counterexample then."""
    if label in SINGLE:
        return _found_single(query, other, label), ()
    if label in MIXED:
        return _found_mixture(query, other, label)
    return _found_cover(query, other), ()


def is_entry(query, other, label, value):
    """Whether the value, which may be any value, is an entry for the query."""
    if label in SINGLE:
        return _is_single(query, other, label, value)
    if label in MIXED:
        return _is_mixture(query, other, label, value)
    return _is_cover(query, other, value)


def _maps_into(query, other):
    """For all maps from a query of the union, tuples of its number, the map, and its counts."""
    for j, source in enumerate(other.queries):
        for value in maps(source, query):
            yield j, value, atom_counts(source, query, value)


def _is_map_into(query, other, j, value):
    """Whether the value is a map from query j of the union; j and the value may be any values."""
    if not is_plain_integer(j) or not 0 <= j < len(other):
        return False
    return map_error(other.queries[j], query, value) is None


def _own_counts(query):
    """How often each distinct atom stands in the query."""
    return atom_counts(query, query, query.variables)


def _found_single(query, other, label):
    """The first map that fits the measure, with the number of its query, or None."""
    own = _own_counts(query)
    for j, value, met in _maps_into(query, other):
        if _fits(label, met, own):
            return j, value
    return None


def _fits(label, met, own):
    """Whether a map with these counts is enough for a query that has its atoms so often."""
    if label == "bags":
        return met == own
    return label == "holds" or min(met) >= 1


def _is_single(query, other, label, value):
    """Whether the value is one map that fits the measure."""
    if not isinstance(value, tuple) or len(value) != 2 or not _is_map_into(query, other, value[0], value[1]):
        return False
    met = atom_counts(other.queries[value[0]], query, value[1])
    return _fits(label, met, _own_counts(query))


def _found_cover(query, other):
    """A list of maps that together meet every atom, each one that no earlier one meets, or None."""
    missing = {k: True for k in range(len(_own_counts(query)))}
    chosen = []
    for j, value, met in _maps_into(query, other):
        fresh = [k for k in missing if met[k] > 0]
        if fresh:
            chosen.append((j, value))
        for k in fresh:
            del missing[k]
        if not missing:
            return chosen
    return None


def _is_cover(query, other, value):
    """Whether the value is a list of different maps that together meet every atom."""
    if not _are_parts(query, other, value, 2):
        return False
    return min(_totals(query, other, [(j, moved, 1) for j, moved in value])) >= 1


def _found_mixture(query, other, label):
    """A tuple of a mixture, or None if there is none, and the weights by which no map is good enough then."""
    own = _own_counts(query)
    # Of several maps with equal counts one is enough.
    first = {}
    for j, value, met in _maps_into(query, other):
        first.setdefault(met, (j, value))
    excesses = [_excess(label, met, own, 1) for met in first]
    times, weights = balanced(excesses, len(own))
    if times is None:
        return None, weights
    chosen = list(first.values())
    return [(*chosen[place], many) for place, many in times.items()], ()


def _is_mixture(query, other, label, value):
    """Whether the value is a list of different maps with times that is right for the measure."""
    if not _are_parts(query, other, value, 3):
        return False
    if not all([is_plain_integer(part[2]) and part[2] >= 1 for part in value]):
        return False
    together = sum([part[2] for part in value])
    excess = _excess(label, _totals(query, other, value), _own_counts(query), together)
    return max(excess) <= 0


def _excess(label, met, own, together):
    """By how much the counts of so many maps together are too great, or, for dearest, too small."""
    if label == "cheapest":
        return tuple([many - together * most for many, most in zip(met, own)])
    return tuple([together * least - many for many, least in zip(met, own)])


def _are_parts(query, other, value, length):
    """Whether the value is a list of one or more tuples that begin with a number and a map, no pair of them twice."""
    if not isinstance(value, list) or not value:
        return False
    for part in value:
        if not isinstance(part, tuple) or len(part) != length or not _is_map_into(query, other, part[0], part[1]):
            return False
    return len({(part[0], part[1]) for part in value}) == len(value)


def _totals(query, other, parts):
    """For each distinct atom the sum of the counts of the maps, each taken as often as its times say."""
    totals = [0] * len(_own_counts(query))
    for j, value, times in parts:
        met = atom_counts(other.queries[j], query, value)
        totals = [total + times * many for total, many in zip(totals, met)]
    return totals
