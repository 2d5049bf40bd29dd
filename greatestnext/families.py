"""Families: the sets of things that may be taken together."""

from greatestnext.errors import InvalidFamily, NoExchange, NotClosed, NotNested, WrongSize
from greatestnext.things import all_sets, is_part, joined, rest_of, smaller_by_one, touches
from greatestnext.values import is_ascending, is_within

MOST_THINGS = 6


def clean_sets(size, sets):
    """Return the sets as tuples, or raise what is wrong with the size or with one of them."""
    if not is_within(size, 1, MOST_THINGS):
        raise WrongSize(size)
    cleaned = []
    for at, things in enumerate(sets):
        if not is_ascending(things, size):
            raise InvalidFamily(at)
        cleaned.append(tuple(things))
    return cleaned


def closed_sets(size, sets):
    """Return the sets of a family in order of size, or raise what is wrong."""
    given = clean_sets(size, sets)
    kept = []
    for things in all_sets(size):
        if things in given:
            kept.append(things)
        elif things == () or any([is_part(things, other) for other in given]):
            raise NotClosed(things)
    return tuple(kept)


class Family:
    """The things 0 to size - 1 and the sets of them that may be taken, in order of size."""

    def __init__(self, size, sets):
        self.sets = closed_sets(size, sets)
        self.size = size

    def __contains__(self, things):
        # Kinds come first, because True == 1.
        return is_ascending(things, self.size) and tuple(things) in self.sets

    def __eq__(self, other):
        return isinstance(other, Family) and self.size == other.size and self.sets == other.sets

    def rank(self, things):
        """Return the size of the largest set within these things."""
        return max([len(held) for held in self.sets if is_part(held, things)])

    def full_sets(self):
        """Return the sets to which nothing can be added."""
        return tuple([held for held in self.sets if len(self.addable(held)) == 0])

    def addable(self, taken):
        """Return the things that can be added to this set."""
        others = rest_of(list(range(self.size)), taken)
        return tuple([thing for thing in others if joined(taken, (thing,)) in self.sets])


def exchange_fault(family):
    """Return the first pair (smaller, larger) without a thing to be exchanged, or None."""
    for smaller in family.sets:
        addable = family.addable(smaller)
        for larger in family.sets:
            if len(larger) > len(smaller) and not touches(addable, larger):
                return (smaller, larger)
    return None


def need_exchange(family):
    """Raise NoExchange unless the family has the exchange property."""
    fault = exchange_fault(family)
    if fault is not None:
        smaller, larger = fault
        raise NoExchange(smaller, larger)


def family_of(size, fits):
    """Return the family of the sets that fit and of which each part fits."""
    held = []
    for things in all_sets(size):
        if fits(things) and all([part in held for part in smaller_by_one(things)]):
            held.append(things)
    return Family(size, held)


def from_tops(size, tops):
    """Return the family of the sets within the tops, and of ()."""
    given = clean_sets(size, tops)
    return family_of(size, lambda things: things == () or any([is_part(things, top) for top in given]))


def uniform(size, most):
    """Return the family of the sets of at most this many things."""
    return family_of(size, lambda things: len(things) <= most)


def quotas(size, classes):
    """Return the family of the sets with at most limit things of each class (set of things, limit)."""
    groups = [group for group, _ in classes]
    for at, group in enumerate(groups):
        if not all([is_nested(group, earlier) for earlier in groups[:at]]):
            raise NotNested(at)
    return family_of(size, lambda held: all([many_of(held, things) <= limit for things, limit in classes]))


def is_nested(one, other):
    """Return whether the two have nothing in common or one contains the other."""
    return not touches(one, other) or is_part(one, other) or is_part(other, one)


def many_of(held, things):
    """Return how many of the held things are among the things."""
    return len([thing for thing in held if thing in things])


def forests(nodes, edges):
    """Return the family of the sets of edges, pairs of nodes, without a cycle."""
    # Without a cycle the edges of each part touch more nodes than they are; those of a cycle do not.
    return family_of(len(edges), lambda held: held == () or many_different(held, edges) > len(held))


def many_different(held, rows):
    """Return how many different values the rows of the held things have together."""
    return len(set([value for thing in held for value in rows[thing]]))


def choices(lists):
    """Return the family of the sets whose things can each be given a text of their list, all distinct."""
    # There are enough texts just if no part of the things has fewer texts than things (Hall).
    return family_of(len(lists), lambda held: many_different(held, lists) >= len(held))


def independent_rows(p, rows):
    """Return the family of the sets whose rows are linearly independent modulo the prime p."""
    return family_of(len(rows), lambda held: is_independent(p, [rows[thing] for thing in held]))


def is_independent(p, rows):
    """Return whether the rows are linearly independent modulo the prime p."""
    left = [[number % p for number in row] for row in rows]
    while len(left) > 0:
        pivot = left.pop()
        at = first_above_0(pivot)
        if at is None:
            return False
        left = [[(number * pivot[at] - row[at] * pivot[place]) % p for place, number in enumerate(row)] for row in left]
    return True


def first_above_0(row):
    """Return the first place at which the row is above 0, or None."""
    for at, number in enumerate(row):
        if number > 0:
            return at
    return None


def beside(one, other):
    """Return the family of a set of each, the things of other numbered behind those of one."""
    size = one.size + other.size
    moved = [tuple([one.size + thing for thing in held]) for held in other.sets]
    return Family(size, [held + behind_it for held in one.sets for behind_it in moved])


def cut(family, most):
    """Return the family of the sets of at most this many things."""
    return Family(family.size, [held for held in family.sets if len(held) <= most])


def renumbered(things, out):
    """Return the things without this one, the number of each later thing one less."""
    return tuple([thing - 1 if thing > out else thing for thing in things if thing != out])


def without(family, thing):
    """Return the family of the sets that do not have the thing, which is left out."""
    return Family(family.size - 1, [renumbered(held, thing) for held in family.sets if thing not in held])


def behind(family, thing):
    """Return the family of the sets that can be taken together with the thing, which is left out."""
    return Family(family.size - 1, [renumbered(held, thing) for held in family.sets if thing in held])


def turned(family):
    """Return the family of the sets that can be left out so that the rest contains a full set."""
    need_exchange(family)
    every = list(range(family.size))
    most = family.rank(every)
    # With the exchange property the full sets are those of the greatest size.
    return family_of(family.size, lambda held: family.rank(rest_of(every, held)) == most)


def common(one, other):
    """Return the family of the sets in both."""
    return Family(one.size, [held for held in one.sets if held in other.sets])
