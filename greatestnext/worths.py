"""What plans can earn: the deed with the greatest fair price, and what it and all others earn in the mean."""

from greatestnext.draws import family_behind, mean_by_ranks, mean_of_greedy, mean_of_heaviest, need_few_rows
from greatestnext.errors import TooMany
from greatestnext.families import need_exchange, renumbered, without
from greatestnext.fracs import Frac, ascending
from greatestnext.houses import House, first_standing, need_standing, standings_after
from greatestnext.prices import fair_prices, least_prices
from greatestnext.projects import Project
from greatestnext.weights import first_greatest, is_above_0, quotient

MOST_STANDINGS = 400


def all_fair_prices(house):
    """Return the fair prices of the states of each project."""
    return [fair_prices(project) for project in house.projects]


def greatest_deed(house, states, things, prices):
    """Return the deed that works on, or takes, the one of the things with the greatest price, ("stop",) for none."""
    if len(things) == 0:
        return ("stop",)
    best = first_greatest(things, prices)
    return ("take" if house.projects[best].kind(states[best]) == "end" else "work", best)


def advised(house, fairs, standing):
    """Return next_deed at this clean standing; fairs are the fair prices of the projects' states."""
    taken, states = standing
    prices = [row[state] for row, state in zip(fairs, states)]
    things = [thing for thing in house.family.addable(taken) if is_above_0(prices[thing])]
    return greatest_deed(house, states, things, prices)


def next_deed(house, standing):
    """Return the deed that works on, or takes, the thing with the greatest fair price above 0."""
    return advised(house, all_fair_prices(house), need_standing(house, standing))


def greatest_plan(house):
    """Return the plan that always does next_deed."""
    fairs = all_fair_prices(house)
    plan = {}
    reached = {first_standing(house): True}
    left = [first_standing(house)]
    while len(left) > 0:
        if len(reached) > MOST_STANDINGS:
            raise TooMany("standings")
        standing = left.pop()
        plan[standing] = advised(house, fairs, standing)
        for _, after in standings_after(house, standing, plan[standing]):
            if after not in reached:
                reached[after] = True
                left.append(after)
    return tuple(sorted(list(plan.items())))


def standing_at(house, at):
    """Return the standing as tuples, the first one for None, or raise InvalidStanding."""
    return first_standing(house) if at is None else need_standing(house, at)


def drawn_prices(house, standing):
    """Return for each thing the least prices from its state on, and None alone if it is taken."""
    taken, states = standing
    drawn = []
    for thing, project in enumerate(house.projects):
        drawn.append(((None, Frac(1)),) if thing in taken else least_prices(project, states[thing]))
    return drawn


def few_draws(house, at):
    """Return the family behind what is taken and the drawn prices, or raise TooMany."""
    standing = standing_at(house, at)
    drawn = drawn_prices(house, standing)
    need_few_rows(drawn)
    return family_behind(house.family, standing[0]), drawn


def greedy_worth(house, *, at=None):
    """Return the mean weight of the greedy set by least prices, which greatest_plan earns."""
    family, drawn = few_draws(house, at)
    return mean_of_greedy(family, drawn)


def bound(house, *, at=None):
    """Return the mean weight of the heaviest set by least prices, above which no plan earns."""
    family, drawn = few_draws(house, at)
    return mean_of_heaviest(family, drawn)


def best_worth(house, *, at=None):
    """Return the greatest mean that a plan earns, if the family has the exchange property."""
    need_exchange(house.family)
    standing = standing_at(house, at)
    drawn = drawn_prices(house, standing)
    above = [price for pairs in drawn for price, _ in pairs if price is not None and price.num > 0]
    return mean_by_ranks(family_behind(house.family, standing[0]), drawn, ascending(above))


def spoiler(family, many):
    """Return projects with which greatest_plan earns little more than the family's quotient of the best."""
    _, things, small, _ = quotient(family)
    worths = [many + 1 if thing in small else many if thing in things else 0 for thing in range(family.size)]
    return tuple([Project.sure(worth) for worth in worths])


def added_worth(house, thing):
    """Return how much more can be earned than without this thing and its project."""
    whole = best_worth(house)
    others = [project for at, project in enumerate(house.projects) if at != thing]
    return whole - best_worth(House(others, without(house.family, thing)))
