"""What a name is, a string of 1 to 8 lowercase letters a to z, and what tuples of names are."""

LONGEST_NAME = 8


def is_name(value):
    """Whether the value, which may be any value, is a name."""
    if not isinstance(value, str) or not 1 <= len(value) <= LONGEST_NAME:
        return False
    return value.isascii() and value.isalpha() and value.islower()


def is_tuple_of_names(value, least, most):
    """Whether the value, which may be any value, is a tuple of least to most names."""
    if not isinstance(value, tuple) or not least <= len(value) <= most:
        return False
    return all([is_name(entry) for entry in value])


def is_monomial(value):
    """Whether the value, which may be any value, is an ascending tuple of names, with repetitions."""
    if not isinstance(value, tuple) or not is_tuple_of_names(value, 0, len(value)):
        return False
    return list(value) == sorted(value)
