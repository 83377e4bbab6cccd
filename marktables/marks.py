"""What marks are made of, and how they are put together, for the measures."""

from marktables.errors import InvalidMark, InvalidName
from marktables.integers import is_plain_integer
from marktables.names import is_monomial, is_name


def check_both(measure, a, b):
    """Raises InvalidMark with the first of the two values that is not a mark of the measure."""
    for value in (a, b):
        if not measure.is_mark(value):
            raise InvalidMark(value)


def check_name(name):
    """Raises InvalidName if the value is not a name."""
    if not is_name(name):
        raise InvalidName("not a name")


def is_number(value):
    """Whether the value, which may be any value, is an integer from 0."""
    return is_plain_integer(value) and value >= 0


def is_way(value):
    """Whether the value, which may be any value, is an ascending tuple of different names."""
    return is_monomial(value) and len(set(value)) == len(value)


def are_ways(value):
    """Whether the value, which may be any value, is an ascending tuple of different ways."""
    return are_monomials(value) and all([len(set(way)) == len(way) for way in value])


def are_monomials(value):
    """Whether the value, which may be any value, is an ascending tuple of different monomials."""
    if not isinstance(value, tuple) or not all([isinstance(entry, tuple) for entry in value]):
        return False
    if not _are_names([name for entry in value for name in entry]):
        return False
    return all([list(entry) == sorted(entry) for entry in value]) and _ascend(value)


def are_counted_ways(value):
    """Whether the value, which may be any value, is an ascending tuple of different ways with counts."""
    return _are_counted(value) and are_ways(tuple([pair[0] for pair in value]))


def are_counted_monomials(value):
    """Whether the value, which may be any value, is an ascending tuple of different monomials with counts."""
    return _are_counted(value) and are_monomials(tuple([pair[0] for pair in value]))


def united(a, b):
    """The ascending tuple of what is in one of the two tuples, each once."""
    return tuple(sorted(set(a + b)))


def joined(a, b):
    """The ascending tuple of what is in the two tuples, with all repetitions."""
    return tuple(sorted(a + b))


def gathered(pairs):
    """The ascending tuple of the pairs (key, count) for the different keys, with their counts added."""
    found = {}
    for key, count in pairs:
        found[key] = found.get(key, 0) + count
    return tuple(sorted(found.items()))


def has_all(whole, part):
    """Whether the tuple whole has all entries of the tuple part."""
    return len(set(whole + part)) == len(set(whole))


def has_counts(whole, part):
    """Whether each key of the pairs (key, count) of part has at least this count in the pairs of whole."""
    known = {key: count for key, count in whole}
    return all([known.get(key, 0) >= count for key, count in part])


def _are_names(values):
    """Whether all values of the list, which may be any values, are names."""
    if not all([isinstance(value, str) for value in values]):
        return False
    # Each different one is looked at once, as few names may stand in great marks.
    return all([is_name(value) for value in sorted(set(values))])


def _ascend(values):
    """Whether each value is less than the next one."""
    return all([one < other for one, other in zip(values, values[1:])])


def _are_counted(value):
    """Whether the value is a tuple of pairs with an integer from 1 in the second place."""
    return isinstance(value, tuple) and all([_has_count(entry) for entry in value])


def _has_count(value):
    """Whether the value is a pair with an integer from 1 in the second place."""
    return isinstance(value, tuple) and len(value) == 2 and is_number(value[1]) and value[1] >= 1
