"""The kinds of values that all modules ask for."""


def is_whole(value):
    """Return whether the value is an integer; True and False are none."""
    return isinstance(value, int) and not isinstance(value, bool)


def is_within(value, least, most):
    """Return whether the value is an integer from least to most."""
    return is_whole(value) and least <= value <= most


def is_row_of(value, least, most):
    """Return whether the value is a list or tuple of least to most elements."""
    return isinstance(value, (list, tuple)) and least <= len(value) <= most
