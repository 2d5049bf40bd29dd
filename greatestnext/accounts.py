"""What a plan takes, loses and spends in vain, by the fair prices of the states in which its things were."""

from greatestnext.fracs import Frac, total
from greatestnext.houses import first_standing, standings_after
from greatestnext.plans import mean_visits, need_plan
from greatestnext.prices import fair_prices, game_worths


def levels_of(fairs):
    """Return a number for each fair price, in the same order: 0 for None, equal ones for equal prices."""
    return [0 if fair is None else 1 + many_below(fairs, fair) for fair in fairs]


def many_below(fairs, price):
    """Return how many of the fair prices are below the price, None left out."""
    return len([fair for fair in fairs if fair is not None and fair.is_below(price)])


def lower(levels, lows, states):
    """Return the least levels so far of the things, when they come to these states."""
    return tuple([min(low, row[state]) for row, low, state in zip(levels, lows, states)])


def reached_nodes(house, deed_at, levels):
    """Return the pairs (standing, least levels so far) that are reached, and what follows each: (share, place)."""
    start = first_standing(house)
    first = (start, tuple([row[0] for row in levels]))
    nodes = [first]
    places = {first: 0}
    ways = []
    while len(ways) < len(nodes):
        standing, lows = nodes[len(ways)]
        way = []
        for share, after in standings_after(house, standing, deed_at[standing]):
            node = (after, lower(levels, lows, after[1]))
            if node not in places:
                places[node] = len(nodes)
                nodes.append(node)
            way.append((share, places[node]))
        ways.append(way)
    return nodes, ways


def losses_of(project, fairs, levels):
    """Return for each level what the game at its price is worth from each state, 0 throughout for None."""
    losses = {0: [Frac(0)] * len(fairs)}
    for fair, level in zip(fairs, levels):
        if level not in losses:
            losses[level] = game_worths(project, fairs, fair)
    return losses


def cost_in_vain(house, fairs, standing, deed):
    """Return the cost of the deed if it is work in a state whose fair price is None, else 0."""
    if deed[0] != "work":
        return Frac(0)
    thing = deed[1]
    state = standing[1][thing]
    return house.projects[thing].cost(state) if fairs[thing][state] is None else Frac(0)


def account(house, plan):
    """Return the means (taken, lost, vain) of the plan, whose worth is taken - lost - vain."""
    deed_at = {standing: deed for standing, deed in need_plan(house, plan)}
    fairs = [fair_prices(project) for project in house.projects]
    levels = [levels_of(row) for row in fairs]
    prices = [{level: fair for fair, level in zip(fairs[at], row)} for at, row in enumerate(levels)]
    losses = [losses_of(project, fairs[at], levels[at]) for at, project in enumerate(house.projects)]
    nodes, ways = reached_nodes(house, deed_at, levels)
    taken = lost = vain = Frac(0)
    for many, (standing, lows) in zip(mean_visits(ways), nodes):
        held, states = standing
        deed = deed_at[standing]
        vain = vain + many * cost_in_vain(house, fairs, standing, deed)
        if deed == ("stop",):
            left = [thing for thing in range(len(lows)) if thing not in held]
            taken = taken + many * total([prices[thing][lows[thing]] for thing in held])
            lost = lost + many * total([losses[thing][lows[thing]][states[thing]] for thing in left])
    return (taken, lost, vain)
