"""Weights of things: greedy and heaviest sets, and the share that the greedy ones are sure of."""

from greatestnext.fracs import Frac, as_frac, total
from greatestnext.things import all_sets, is_part, joined, touches


def is_above_0(weight):
    """Return whether the weight is a fraction or integer above 0."""
    return weight is not None and as_frac(weight).num > 0


def first_greatest(things, weights):
    """Return the thing with the greatest weight, of equal ones the first."""
    best = things[0]
    for thing in things:
        if as_frac(weights[best]).is_below(as_frac(weights[thing])):
            best = thing
    return best


def greedy_set(family, weights):
    """Return the set that takes the greatest weight above 0 that can be added, again and again."""
    taken = ()
    found = [thing for thing in family.addable(taken) if is_above_0(weights[thing])]
    while len(found) > 0:
        taken = joined(taken, (first_greatest(found, weights),))
        found = [thing for thing in family.addable(taken) if is_above_0(weights[thing])]
    return taken


def heaviest_set(family, weights):
    """Return some set of the greatest weight, with no thing of weight None or at most 0 in it."""
    best = ()
    most = Frac(0)
    for held in family.sets:
        if all([is_above_0(weights[thing]) for thing in held]):
            weight = set_weight(weights, held)
            if most.is_below(weight):
                best = held
                most = weight
    return best


def set_weight(weights, things):
    """Return the sum of the weights of the things."""
    return total([as_frac(weights[thing]) for thing in things])


def quotient(family):
    """Return (share, things, small, large) with the least share of small in large, both full within the things."""
    addable = {held: family.addable(held) for held in family.sets}
    best = (Frac(1), (), (), ())
    for things in all_sets(family.size):
        # All sets stand in order of size: the last one is a largest one.
        within = [held for held in family.sets if is_part(held, things)]
        large = within[-1]
        if large == ():
            continue
        full = [held for held in within if not touches(addable[held], things)]
        share = Frac(len(full[0]), len(large))
        if best[1] == () or share.is_below(best[0]):
            best = (share, things, full[0], large)
    return best
