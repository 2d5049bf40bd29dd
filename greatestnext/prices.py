"""The fair prices and least prices of projects, and certificates of fair prices."""

from greatestnext.equations import solved
from greatestnext.errors import InvalidCertificate
from greatestnext.fracs import Frac, as_frac, ascending, greatest, total
from greatestnext.values import is_ascending, is_row_of


def reckoned(project, go):
    """Return the means and chances of the states of go: worked at while in go, and taken at each end."""
    places = {state: at for at, state in enumerate(go)}
    means = []
    chances = []
    factors = []
    for state in go:
        if project.kind(state) == "end":
            means.append(project.worth(state))
            chances.append(Frac(1))
            factors.append([])
        else:
            means.append(Frac(0) - project.cost(state))
            chances.append(Frac(0))
            factors.append([(share, places[goal]) for share, goal in project.shares(state) if goal in places])
    return solved(means, factors), solved(chances, factors)


def mean_of_goals(project, state, numbers):
    """Return the sum of share times number over those goals of the step that have a number."""
    return total([share * numbers[goal] for share, goal in project.shares(state) if goal in numbers])


def offers(project, go):
    """Return the pairs (state, price) of the states outside go that end somewhere if go is worked at."""
    means, chances = reckoned(project, go)
    mean_at = {state: means[at] for at, state in enumerate(go)}
    chance_at = {state: chances[at] for at, state in enumerate(go)}
    found = []
    for state in range(len(project)):
        if state in mean_at or project.kind(state) == "void":
            continue
        if project.kind(state) == "end":
            found.append((state, project.worth(state)))
            continue
        # Coming back to the state begins anew, so that one round has the same ratio as all of them.
        chance = mean_of_goals(project, state, chance_at)
        if chance.num > 0:
            mean = mean_of_goals(project, state, mean_at) - project.cost(state)
            found.append((state, mean.divided_by(chance)))
    return found


def fair_prices(project):
    """Return the fair price of each state."""
    prices = [None] * len(project)
    found = offers(project, [])
    # It pays to go on just where the price is greater, so that the greatest price left is the best offer.
    while len(found) > 0:
        best = greatest([price for _, price in found])
        for state, price in found:
            if price == best:
                prices[state] = price
        found = offers(project, [state for state, price in enumerate(prices) if price is not None])
    return tuple(prices)


def fair_price(project, state):
    """Return the least price at which the game is worth 0, or None if no end can be reached."""
    return fair_prices(project)[state]


def states_above(fairs, price):
    """Return the states whose fair price is above the price."""
    return [state for state, fair in enumerate(fairs) if fair is not None and price.is_below(fair)]


def states_from(fairs, price):
    """Return the states whose fair price is the price or above it."""
    return [state for state, fair in enumerate(fairs) if fair is not None and not fair.is_below(price)]


def game_worths(project, fairs, price):
    """Return what the game at this price is worth from each state."""
    go = states_above(fairs, price)
    means, chances = reckoned(project, go)
    worths = [Frac(0)] * len(project)
    for at, state in enumerate(go):
        worths[state] = means[at] - price * chances[at]
    return worths


def game_worth(project, state, price):
    """Return the greatest mean gain of the game at this price."""
    return game_worths(project, fair_prices(project), as_frac(price))[state]


def least_prices(project, state):
    """Return the pairs (price, share) of the least price of a run, in descending order, None last."""
    fairs = fair_prices(project)
    pairs = []
    before = Frac(0)
    for price in ascending([fair for fair in fairs if fair is not None])[::-1]:
        go = states_from(fairs, price)
        if state not in go:
            continue
        _, chances = reckoned(project, go)
        chance = chances[go.index(state)]
        if before.is_below(chance):
            pairs.append((price, chance - before))
        before = chance
    if before != Frac(1):
        pairs.append((None, Frac(1) - before))
    return tuple(pairs)


def reached_from(project, state):
    """Return the states that can be reached from this one, itself included."""
    reached = [at == state for at in range(len(project))]
    # A way that visits no state twice has fewer steps than there are states.
    for _ in range(len(project)):
        for at in range(len(project)):
            if reached[at] and project.kind(at) == "step":
                for _, goal in project.shares(at):
                    reached[goal] = True
    return tuple([at for at, is_reached in enumerate(reached) if is_reached])


def price_certificate(project, state):
    """Return some certificate of the fair price of the state."""
    fairs = fair_prices(project)
    price = fairs[state]
    if price is None:
        return ("none", reached_from(project, state))
    go = states_from(fairs, price)
    means, chances = reckoned(project, go)
    heights = game_worths(project, fairs, price)
    return ("price", price, tuple(go), tuple(means), tuple(chances), tuple(heights))


def are_fracs(value, many):
    """Return whether the value is a list or tuple of this many fractions."""
    return is_row_of(value, many, many) and all([isinstance(frac, Frac) for frac in value])


def is_closed(project, state, closed):
    """Return whether closed is a set of states that holds the state, no end, and all goals of its steps."""
    if not is_ascending(closed, len(project)) or state not in closed:
        return False
    for at in closed:
        if project.kind(at) == "end":
            return False
        if project.kind(at) == "step" and not all([goal in closed for _, goal in project.shares(at)]):
            return False
    return True


def are_reckoned(project, go, means, chances):
    """Return whether the means and chances are those of the states of go."""
    mean_at = {state: means[at] for at, state in enumerate(go)}
    chance_at = {state: chances[at] for at, state in enumerate(go)}
    for state in go:
        if project.kind(state) == "void":
            return False
        if project.kind(state) == "end":
            mean = project.worth(state)
            chance = Frac(1)
        else:
            mean = mean_of_goals(project, state, mean_at) - project.cost(state)
            chance = mean_of_goals(project, state, chance_at)
        if mean_at[state] != mean or chance_at[state] != chance:
            return False
    return True


def are_heights(project, price, heights):
    """Return whether the heights are from 0 on and high enough at each end and step."""
    height_at = {state: height for state, height in enumerate(heights)}
    for state, height in enumerate(heights):
        least = Frac(0)
        if project.kind(state) == "end":
            least = project.worth(state) - price
        elif project.kind(state) == "step":
            least = mean_of_goals(project, state, height_at) - project.cost(state)
        if height.num < 0 or height.is_below(least):
            return False
    return True


def is_priced(project, state, parts):
    """Return whether the parts behind "price" certify the price of the state."""
    price, go, means, chances, heights = parts
    if not is_ascending(go, len(project)) or state not in go:
        return False
    if not isinstance(price, Frac) or not are_fracs(means, len(go)) or not are_fracs(chances, len(go)):
        return False
    if not are_fracs(heights, len(project)) or heights[state] != Frac(0):
        return False
    if not are_reckoned(project, go, means, chances) or not are_heights(project, price, heights):
        return False
    at = list(go).index(state)
    return chances[at].num > 0 and means[at] == price * chances[at]


def price_of(project, state, certificate):
    """Return the price that the certificate certifies, None for "none"."""
    if is_row_of(certificate, 2, 2) and certificate[0] == "none" and is_closed(project, state, certificate[1]):
        return None
    if is_row_of(certificate, 6, 6) and certificate[0] == "price" and is_priced(project, state, certificate[1:]):
        return certificate[1]
    raise InvalidCertificate(certificate)
