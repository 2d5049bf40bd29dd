"""Plans: what to do at each standing that can come about."""

from greatestnext.equations import solved
from greatestnext.errors import InvalidPlan
from greatestnext.fracs import Frac, total
from greatestnext.houses import clean_deed, clean_standing, first_standing, gain_of, standings_after
from greatestnext.values import is_row_of


def clean_pair(house, pair):
    """Return the pair of a standing and a deed as tuples; None if it is none that can be done."""
    if not is_row_of(pair, 2, 2):
        return None
    standing = clean_standing(house, pair[0])
    if standing is None:
        return None
    deed = clean_deed(house, standing, pair[1])
    return None if deed is None else (standing, deed)


def clean_pairs(house, plan):
    """Return the pairs of the plan as tuples, up to the first one that is wrong or not above the one before."""
    pairs = []
    for pair in plan:
        cleaned = clean_pair(house, pair)
        if cleaned is None or len(pairs) > 0 and cleaned[0] <= pairs[-1][0]:
            return pairs
        pairs.append(cleaned)
    return pairs


def first_missing(house, pairs):
    """Return the first standing that is needed and that the pairs lack, or None."""
    needed = [first_standing(house)]
    for standing, deed in pairs:
        needed.extend([after for _, after in standings_after(house, standing, deed)])
    planned = {standing: True for standing, _ in pairs}
    lacking = [standing for standing in needed if standing not in planned]
    return min(lacking) if len(lacking) > 0 else None


def first_needless(house, pairs):
    """Return the first standing of the pairs that is never reached, or None."""
    deed_at = {standing: deed for standing, deed in pairs}
    reached = {first_standing(house): True}
    left = [first_standing(house)]
    while len(left) > 0:
        standing = left.pop()
        for _, after in standings_after(house, standing, deed_at[standing]):
            if after not in reached:
                reached[after] = True
                left.append(after)
    for standing, _ in pairs:
        if standing not in reached:
            return standing
    return None


def plan_fault(house, plan):
    """Return None if this is a plan for the house, else what is wrong first."""
    if not isinstance(plan, (list, tuple)):
        return ("pair", 0)
    pairs = clean_pairs(house, plan)
    if len(pairs) < len(plan):
        return ("pair", len(pairs))
    missing = first_missing(house, pairs)
    if missing is not None:
        return ("missing", missing)
    needless = first_needless(house, pairs)
    return None if needless is None else ("needless", needless)


def need_plan(house, plan):
    """Return the pairs of the plan as tuples, or raise InvalidPlan."""
    if plan_fault(house, plan) is not None:
        raise InvalidPlan(plan)
    return clean_pairs(house, plan)


def mean_visits(ways):
    """Return how often each place comes about in the mean, from pairs (share, place) of what follows each of them."""
    factors = [[] for _ in ways]
    for at, way in enumerate(ways):
        for share, place in way:
            factors[place].append((share, at))
    # All begins at place 0.
    starts = [Frac(1 if at == 0 else 0) for at in range(len(ways))]
    return solved(starts, factors)


def planned_visits(house, pairs):
    """Return how often each standing of the plan comes about in the mean."""
    # The first standing is the least one, so that its place is 0.
    places = {standing: at for at, (standing, _) in enumerate(pairs)}
    return mean_visits([
        [(share, places[after]) for share, after in standings_after(house, standing, deed)] for standing, deed in pairs
    ])


def plan_worth(house, plan):
    """Return the mean of the sum of all gains until the plan stops."""
    pairs = need_plan(house, plan)
    visits = planned_visits(house, pairs)
    return total([many * gain_of(house, standing, deed) for many, (standing, deed) in zip(visits, pairs)])


def taken_shares(house, plan):
    """Return the pairs (set, share) of what is taken in the end, in order of size."""
    pairs = need_plan(house, plan)
    visits = planned_visits(house, pairs)
    found = []
    for taken in house.family.sets:
        ends = [many for many, ((held, _), deed) in zip(visits, pairs) if deed == ("stop",) and held == taken]
        if len(ends) > 0:
            found.append((taken, total(ends)))
    return tuple(found)
