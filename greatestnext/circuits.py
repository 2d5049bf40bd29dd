"""Circuits: the smallest sets of things that may not be taken together."""

from greatestnext.families import need_exchange
from greatestnext.things import all_sets, is_part, joined, rest_of, smaller_by_one


def circuits(family):
    """Return the sets that are not in the family although all their proper parts are."""
    outside = [things for things in all_sets(family.size) if things not in family.sets]
    return tuple([things for things in outside if all([part in family.sets for part in smaller_by_one(things)])])


def closed_by(family, taken, thing):
    """Return the only circuit within the taken things and this one."""
    need_exchange(family)
    within = joined(taken, (thing,))
    found = [circuit for circuit in circuits(family) if is_part(circuit, within)]
    return found[0]


def closure(family, things):
    """Return all things whose addition to these does not raise the rank."""
    need_exchange(family)
    rank = family.rank(things)
    return tuple([thing for thing in range(family.size) if family.rank(joined(things, (thing,))) == rank])


def swaps(family, one, other):
    """Return pairs (out, into) that lead from one full set to the other through full sets."""
    need_exchange(family)
    pairs = []
    held = one
    for out in rest_of(one, other):
        kept = rest_of(held, (out,))
        # By the exchange property some thing of the other set can always be added to what is kept.
        found = [thing for thing in rest_of(other, held) if thing in family.addable(kept)]
        pairs.append((out, found[0]))
        held = joined(kept, found[:1])
    return tuple(pairs)
