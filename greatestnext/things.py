"""Sets of things: tuples of distinct things in ascending order."""

from itertools import combinations


def parts_of(things):
    """Return all sets within these things, in order of size."""
    row = list(things)
    return [part for many in range(len(row) + 1) for part in combinations(row, many)]


def all_sets(size):
    """Return all sets of things below size, in order of size."""
    return parts_of(list(range(size)))


def is_part(part, things):
    """Return whether all of the part is among the things."""
    return all([thing in things for thing in part])


def touches(one, other):
    """Return whether the two have a thing in common."""
    return any([thing in other for thing in one])


def joined(one, other):
    """Return the set of the things that are in one or in the other."""
    return tuple(sorted(set([*one, *other])))


def rest_of(things, out):
    """Return the things that are not in out."""
    return tuple([thing for thing in things if thing not in out])


def smaller_by_one(things):
    """Return the sets that lack one of the things."""
    return [rest_of(things, (thing,)) for thing in things]
