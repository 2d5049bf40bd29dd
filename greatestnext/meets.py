"""Two families with the exchange property: what they have in common, and what they make together."""

from greatestnext.families import Family, need_exchange
from greatestnext.things import all_sets, joined, parts_of, rest_of


def need_both(one, other):
    """Raise NoExchange of the first family that lacks the exchange property."""
    need_exchange(one)
    need_exchange(other)


def largest_common(one, other):
    """Return some largest set in both, and some set of things that proves that there is no larger one."""
    need_both(one, other)
    every = list(range(one.size))
    # The sets stand in order of size, so that the last one is a largest one.
    held_by_both = [held for held in one.sets if held in other.sets]
    part = min(all_sets(one.size), key=lambda things: one.rank(things) + other.rank(rest_of(every, things)))
    return (held_by_both[-1], part)


def union(one, other):
    """Return the family of the sets that consist of a set of each."""
    need_both(one, other)
    return Family(one.size, sorted(set([joined(held, added) for held in one.sets for added in other.sets])))


def split(one, other, things):
    """Return some disjoint pair (set of one, set of other) that is together the things, or None."""
    need_both(one, other)
    for part in parts_of(things):
        rest = rest_of(things, part)
        if part in one.sets and rest in other.sets:
            return (part, rest)
    return None


def union_bound(one, other, things):
    """Return some part of the things whose ranks and the other things together are the rank in the union."""
    need_both(one, other)
    # No part gives less than the rank, and some part gives it: the least one.
    return min(parts_of(things), key=lambda part: one.rank(part) + other.rank(part) - len(part))
