"""Least prices that are drawn, one for each thing, and mean weights of the sets that they lead to."""

from math import lcm

from greatestnext.errors import TooMany
from greatestnext.families import Family
from greatestnext.fracs import Frac, total
from greatestnext.things import all_sets, is_part, joined, rest_of

MOST_ROWS = 3000


def family_behind(family, taken):
    """Return the family of the sets that can be taken behind taken; each thing keeps its number."""
    return Family(family.size, [rest_of(held, taken) for held in family.sets if is_part(taken, held)])


def common_den(fracs):
    """Return the least number that is a multiple of all denominators."""
    den = 1
    for frac in fracs:
        den = lcm(den, frac.den)
    return den


def need_few_rows(drawn):
    """Raise TooMany if there are more ways to draw than can be gone through."""
    rows = 1
    for pairs in drawn:
        rows = rows * len(pairs)
    if rows > MOST_ROWS:
        raise TooMany("rows")


def counted(frac, scale):
    """Return how often 1 / scale is in the fraction, 0 for None and what is below 0."""
    return 0 if frac is None or frac.num < 0 else frac.num * (scale // frac.den)


def mean_over_rows(drawn, weigh):
    """Return the mean of weigh(weights) over all ways to draw a weight from the pairs (price, share) of each thing."""
    scale = common_den([price for pairs in drawn for price, _ in pairs if price is not None])
    den = scale
    rows = [((), 1)]
    # All is counted in integers, which is much quicker than adding up fractions.
    for pairs in drawn:
        parts = common_den([share for _, share in pairs])
        den = den * parts
        drops = [(counted(price, scale), counted(share, parts)) for price, share in pairs]
        rows = [((*weights, weight), many * part) for weights, many in rows for weight, part in drops]
    return Frac(sum([many * weigh(weights) for weights, many in rows]), den)


def greedy_weight(addable, weights):
    """Return the weight of the greedy set; addable tells what can be added to which set."""
    taken = ()
    weight = 0
    # Sorting leaves things of equal weight in ascending order.
    for thing in sorted(list(range(len(weights))), key=lambda place: -weights[place]):
        if weights[thing] > 0 and thing in addable[taken]:
            taken = joined(taken, (thing,))
            weight += weights[thing]
    return weight


def mean_of_greedy(family, drawn):
    """Return the mean weight of the greedy set."""
    addable = {held: family.addable(held) for held in family.sets}
    return mean_over_rows(drawn, lambda weights: greedy_weight(addable, weights))


def mean_of_heaviest(family, drawn):
    """Return the mean weight of the heaviest set."""
    full = family.full_sets()
    return mean_over_rows(drawn, lambda weights: max([sum([weights[thing] for thing in held]) for held in full]))


def chance_from(pairs, price):
    """Return with which chance the price that is drawn from the pairs is this one or above it."""
    return total([share for drawn, share in pairs if drawn is not None and not drawn.is_below(price)])


def mean_rank(ranks, drawn, price):
    """Return the mean rank of the things whose drawn price is this one or above it."""
    den = 1
    parts = [((), 1)]
    for thing, pairs in enumerate(drawn):
        chance = chance_from(pairs, price)
        den = den * chance.den
        inside = [((*things, thing), many * chance.num) for things, many in parts]
        outside = [(things, many * (chance.den - chance.num)) for things, many in parts]
        parts = [(things, many) for things, many in inside + outside if many > 0]
    return Frac(sum([many * ranks[things] for things, many in parts]), den)


def mean_by_ranks(family, drawn, prices):
    """Return the sum over the ascending prices of (price less the one before) times the mean rank from it on."""
    ranks = {things: family.rank(things) for things in all_sets(family.size)}
    worth = before = Frac(0)
    for price in prices:
        worth = worth + (price - before) * mean_rank(ranks, drawn, price)
        before = price
    return worth
