"""The kinds of values that all modules ask for."""


def is_whole(value):
    """Return whether the value is an integer; True and False are none."""
    return isinstance(value, int) and not isinstance(value, bool)


def is_within(value, least, most):
    """Return whether the value is an integer from least to most."""
    return is_whole(value) and least <= value <= most


def is_row_of(value, least, most):
    """Return whether the value is a list or tuple of least to most elements."""
    return isinstance(value, (list, tuple)) and least <= len(value) <= most


def is_ascending(value, size):
    """Return whether the value is a list or tuple of ascending distinct integers from 0 to size - 1."""
    if not isinstance(value, (list, tuple)):
        return False
    least = 0
    for number in value:
        if not is_within(number, least, size - 1):
            return False
        least = number + 1
    return True
