"""An own reckoning with Python's fractions, by other ways than those of the package."""

import itertools
from fractions import Fraction

from greatestnext.fracs import Frac
from greatestnext.houses import deeds, gain, outcomes


def fraction(frac):
    """Return a Frac as a Fraction."""
    assert type(frac) is Frac, frac
    return Fraction(frac.num, frac.den)


def frac(number):
    """Return a Fraction or integer as a Frac."""
    number = Fraction(number)
    return Frac(number.numerator, number.denominator)


def solve(matrix, right):
    """Return the numbers x with matrix * x == right."""
    rows = [[Fraction(number) for number in row] + [Fraction(last)] for row, last in zip(matrix, right)]
    for at in range(len(rows)):
        pivot = next(row for row in range(at, len(rows)) if rows[row][at] != 0)
        rows[at], rows[pivot] = rows[pivot], rows[at]
        rows[at] = [number / rows[at][at] for number in rows[at]]
        for row in range(len(rows)):
            if row != at and rows[row][at] != 0:
                times = rows[row][at]
                rows[row] = [number - times * above for number, above in zip(rows[row], rows[at])]
    return [row[-1] for row in rows]


def followed(project, going, fixed):
    """Return the number of each state: less the cost plus the goals' mean where going, else the fixed one."""
    size = len(project)
    matrix = [[int(row == column) for column in range(size)] for row in range(size)]
    right = list(fixed)
    for state in going:
        weights = sum(weight for weight, _ in project.rows[state][2])
        right[state] = fixed[state] - fraction(project.rows[state][1])
        for weight, goal in project.rows[state][2]:
            matrix[state][goal] -= Fraction(weight, weights)
    return solve(matrix, right)


def steps_of(project):
    return [state for state in range(len(project)) if project.kind(state) == "step"]


def ends_of(project):
    return [state for state in range(len(project)) if project.kind(state) == "end"]


def some_of(states):
    """Return all selections of these states."""
    return [part for many in range(len(states) + 1) for part in itertools.combinations(states, many)]


def best_games(project, price):
    """Return what the game is worth from each state, by all ways to say at which steps to go on."""
    fixed = [Fraction(0)] * len(project)
    for state in ends_of(project):
        fixed[state] = max(Fraction(0), fraction(project.worth(state)) - price)
    ways = [followed(project, going, fixed) for going in some_of(steps_of(project))]
    return [max(way[state] for way in ways) for state in range(len(project))]


def best_ratios(project):
    """Return the greatest mean per chance to take of each state, by all ways to go on and take; None without any."""
    best = [None] * len(project)
    for going in some_of(steps_of(project)):
        for taking in some_of(ends_of(project)):
            worths = [Fraction(0)] * len(project)
            chances = [Fraction(0)] * len(project)
            for state in taking:
                worths[state] = fraction(project.worth(state))
                chances[state] = Fraction(1)
            means = followed(project, going, worths)
            free = costless(project, going, chances)
            for state in range(len(project)):
                if free[state] > 0 and (best[state] is None or means[state] / free[state] > best[state]):
                    best[state] = means[state] / free[state]
    return best


def costless(project, going, fixed):
    """Return what followed returns for a project without costs."""
    size = len(project)
    matrix = [[int(row == column) for column in range(size)] for row in range(size)]
    for state in going:
        weights = sum(weight for weight, _ in project.rows[state][2])
        for weight, goal in project.rows[state][2]:
            matrix[state][goal] -= Fraction(weight, weights)
    return solve(matrix, list(fixed))


def least_shares(project, state, fairs):
    """Return the dict of least prices and their shares, by the runs over pairs (state, least price so far)."""
    def least(price, other):
        return None if price is None or other is None else min(price, other)

    first = (state, fairs[state])
    nodes = [first]
    for node in nodes:
        if project.kind(node[0]) == "step":
            for _, goal in project.rows[node[0]][2]:
                after = (goal, least(node[1], fairs[goal]))
                if after not in nodes:
                    nodes.append(after)
    matrix = [[int(row == column) for column in range(len(nodes))] for row in range(len(nodes))]
    for at, node in enumerate(nodes):
        if project.kind(node[0]) == "step":
            weights = sum(weight for weight, _ in project.rows[node[0]][2])
            for weight, goal in project.rows[node[0]][2]:
                matrix[at][nodes.index((goal, least(node[1], fairs[goal])))] -= Fraction(weight, weights)
    found = {}
    for target in nodes:
        if project.kind(target[0]) != "step":
            chance = solve(matrix, [int(node == target) for node in nodes])[0]
            price = target[1] if project.kind(target[0]) == "end" else None
            found[price] = found.get(price, 0) + chance
    return {price: share for price, share in found.items() if share != 0}


def drawn_shares(project, state):
    """Return the dict of least prices from the state on and their shares, by all ways to go on."""
    return least_shares(project, state, best_ratios(project))


def sets_behind(family, taken):
    """Return the sets that can be taken behind taken."""
    return [tuple(sorted(set(held) - set(taken))) for held in family.sets if set(taken) <= set(held)]


def mean_of_draws(house, standing, weigh, shares_of=drawn_shares):
    """Return the mean of weigh(sets behind taken, weights) over all ways to draw prices for the things not taken."""
    taken, states = standing
    columns = []
    for thing, project in enumerate(house.projects):
        column = {None: 1} if thing in taken else shares_of(project, states[thing])
        columns.append(list(column.items()))
    sets = sets_behind(house.family, taken)
    mean = Fraction(0)
    for row in itertools.product(*columns):
        share = Fraction(1)
        for _, part in row:
            share *= part
        mean += share * weigh(sets, [price for price, _ in row])
    return mean


def greedy_weight(sets, weights):
    """Return the weight of the greedy set, by the words of the document."""
    taken = ()
    while True:
        found = [
            (-weight, thing) for thing, weight in enumerate(weights)
            if weight is not None and weight > 0 and thing not in taken and tuple(sorted([*taken, thing])) in sets
        ]
        if not found:
            return sum(weights[thing] for thing in taken)
        taken = tuple(sorted([*taken, min(found)[1]]))


def heaviest_weight(sets, weights):
    """Return the greatest weight of a set."""
    clean = [0 if weight is None or weight < 0 else weight for weight in weights]
    return max(sum(clean[thing] for thing in held) for held in sets)


def lightest_weight(sets, weights):
    """Return the least weight of a set to which nothing can be added."""
    full = [held for held in sets if not any(set(held) < set(other) for other in sets)]
    return min(sum(weights[thing] for thing in held) for held in full)


def best_values(house, standings, full_only=False):
    """Return the greatest mean gain from each standing on, by changing deeds until no change earns more.

    With full_only only plans count that stop with a full set alone.
    """
    choices = {standing: deeds(house, standing) for standing in standings}
    if full_only:
        choices = {standing: some if standing[0] in house.family.full_sets() else some[1:] for standing, some in choices.items()}
    plan = {standing: some[0] for standing, some in choices.items()}
    while True:
        values = plan_values(house, plan)
        better = dict(plan)
        for standing in standings:
            earned = {deed: deed_value(house, values, standing, deed) for deed in choices[standing]}
            best = max(choices[standing], key=lambda deed: earned[deed])
            if earned[best] > values[standing]:
                better[standing] = best
        if better == plan:
            return values
        plan = better


def deed_value(house, values, standing, deed):
    """Return the gain of the deed and the mean of the values behind it."""
    after = sum((fraction(share) * values[after] for share, after in outcomes(house, standing, deed)), Fraction(0))
    return fraction(gain(house, standing, deed)) + after


def plan_values(house, plan):
    """Return what is earned from each standing on if these deeds are done."""
    standings = list(plan)
    matrix = [[int(row == column) for column in range(len(plan))] for row in range(len(plan))]
    right = []
    for row, standing in enumerate(standings):
        right.append(fraction(gain(house, standing, plan[standing])))
        for share, after in outcomes(house, standing, plan[standing]):
            matrix[row][standings.index(after)] -= fraction(share)
    return dict(zip(standings, solve(matrix, right)))
