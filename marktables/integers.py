"""What an integer is: an int that is not a boolean."""


def is_plain_integer(value):
    """Whether the value, which may be any value, is an integer."""
    return isinstance(value, int) and not isinstance(value, bool)
