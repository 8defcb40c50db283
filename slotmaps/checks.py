"""What an integer, an index, a name and a tuple of some length are; each check accepts any value."""


def is_integer(value):
    """Return whether the value is an int that is not a bool."""
    return isinstance(value, int) and not isinstance(value, bool)


def is_integer_in(value, low, high):
    """Return whether the value is an integer from low to high, both included."""
    return is_integer(value) and low <= value <= high


def is_count(value):
    """Return whether the value is an integer from 0 on."""
    return is_integer(value) and value >= 0


def is_index(value, many):
    """Return whether the value is the index of one of so many things."""
    # Written out, not by the checks above: this is asked for each point of each edge.
    return isinstance(value, int) and not isinstance(value, bool) and 0 <= value < many


def is_tuple(value, low, high):
    """Return whether the value is a tuple of low to high items."""
    return isinstance(value, tuple) and low <= len(value) <= high


def is_name(value):
    """Return whether the value is a string of 1 to 8 letters from a to z."""
    # The length comes first: a long string is not read to its end.
    return isinstance(value, str) and 1 <= len(value) <= 8 and all(["a" <= sign <= "z" for sign in value])


def is_names(value, most):
    """Return whether the value is a tuple of at most so many names."""
    return is_tuple(value, 0, most) and all([is_name(item) for item in value])
