"""Full sets that have to be taken, and paid for: the worth of an end is its price."""

from greatestnext.draws import family_behind, mean_by_ranks
from greatestnext.errors import NoEnd
from greatestnext.families import need_exchange
from greatestnext.fracs import Frac, ascending
from greatestnext.houses import House, need_standing
from greatestnext.prices import fair_price
from greatestnext.projects import Project
from greatestnext.worths import drawn_prices, greatest_deed, standing_at


def paid_row(row):
    """Return the row of a project with the worth of an end as what it costs."""
    return ("end", Frac(0) - row[1]) if row[0] == "end" else row


def paid(project):
    """Return the project with the sign of each worth turned: its fair prices are the dear ones, also turned."""
    return Project([paid_row(row) for row in project.rows])


def dear_price(project, state):
    """Return the greatest price for which nothing is gained by working towards an end and paying its worth."""
    return Frac(0) - fair_price(paid(project), state)


def need_ends(house):
    """Raise NoExchange or NoEnd unless a full set can always be taken."""
    need_exchange(house.family)
    for thing, project in enumerate(house.projects):
        if ("void",) in project.rows:
            raise NoEnd(thing)


def cheapest_deed(house, standing):
    """Return the deed that works on, or takes, the thing with the least dear price that can be added."""
    need_ends(house)
    taken, states = need_standing(house, standing)
    prices = [fair_price(paid(project), state) for project, state in zip(house.projects, states)]
    return greatest_deed(house, states, house.family.addable(taken), prices)


def cheapest_worth(house, *, at=None):
    """Return the mean weight of the lightest set that makes taken full, by drawn greatest dear prices."""
    need_ends(house)
    standing = standing_at(house, at)
    drawn = drawn_prices(House([paid(project) for project in house.projects], house.family), standing)
    # All full sets are of one size, so that prices below 0 count just as those above it.
    every = [price for pairs in drawn for price, _ in pairs if price is not None]
    return Frac(0) - mean_by_ranks(family_behind(house.family, standing[0]), drawn, ascending(every))
