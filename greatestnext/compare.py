"""Comparing two projects at every price."""

from greatestnext.fracs import Frac, ascending, total
from greatestnext.prices import least_prices


def worth_at(pairs, price):
    """Return what the game with these least prices is worth at the price."""
    return total([share * (least - price) for least, share in pairs if least is not None and price.is_below(least)])


def worse_by_pairs(one_pairs, other_pairs):
    """Return the least price from 0 on at which the first least prices are worth less than the others, or None."""
    above = [price for price, _ in [*one_pairs, *other_pairs] if price is not None and price.num > 0]
    # Between these prices both worths are straight lines, and behind the last one both are 0.
    for price in ascending([Frac(0), *above]):
        if worth_at(one_pairs, price).is_below(worth_at(other_pairs, price)):
            return price
    return None


def worse_at(project, other):
    """Return the least price from 0 on at which the game of project is worth less than that of other, or None."""
    return worse_by_pairs(least_prices(project, 0), least_prices(other, 0))


def same_value(project, other):
    """Return whether the games of both are worth the same at every price from 0 on."""
    return worse_at(project, other) is None and worse_at(other, project) is None
