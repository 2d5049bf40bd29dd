"""An own reckoning with Python's fractions, by other ways than those of the package."""

import itertools
from fractions import Fraction

from greatestnext.fracs import Frac


def fraction(frac):
    """Return a Frac as a Fraction."""
    assert type(frac) is Frac, frac
    return Fraction(frac.num, frac.den)


def frac(number):
    """Return a Fraction or integer as a Frac."""
    number = Fraction(number)
    return Frac(number.numerator, number.denominator)


def solve(matrix, right):
    """Return the numbers x with matrix * x == right."""
    rows = [[Fraction(number) for number in row] + [Fraction(last)] for row, last in zip(matrix, right)]
    for at in range(len(rows)):
        pivot = next(row for row in range(at, len(rows)) if rows[row][at] != 0)
        rows[at], rows[pivot] = rows[pivot], rows[at]
        rows[at] = [number / rows[at][at] for number in rows[at]]
        for row in range(len(rows)):
            if row != at and rows[row][at] != 0:
                times = rows[row][at]
                rows[row] = [number - times * above for number, above in zip(rows[row], rows[at])]
    return [row[-1] for row in rows]


def followed(project, going, fixed):
    """Return the number of each state: less the cost plus the goals' mean where going, else the fixed one."""
    size = len(project)
    matrix = [[int(row == column) for column in range(size)] for row in range(size)]
    right = list(fixed)
    for state in going:
        weights = sum(weight for weight, _ in project.rows[state][2])
        right[state] = fixed[state] - fraction(project.rows[state][1])
        for weight, goal in project.rows[state][2]:
            matrix[state][goal] -= Fraction(weight, weights)
    return solve(matrix, right)


def steps_of(project):
    return [state for state in range(len(project)) if project.kind(state) == "step"]


def ends_of(project):
    return [state for state in range(len(project)) if project.kind(state) == "end"]


def some_of(states):
    """Return all selections of these states."""
    return [part for many in range(len(states) + 1) for part in itertools.combinations(states, many)]


def best_games(project, price):
    """Return what the game is worth from each state, by all ways to say at which steps to go on."""
    fixed = [Fraction(0)] * len(project)
    for state in ends_of(project):
        fixed[state] = max(Fraction(0), fraction(project.worth(state)) - price)
    ways = [followed(project, going, fixed) for going in some_of(steps_of(project))]
    return [max(way[state] for way in ways) for state in range(len(project))]


def best_ratios(project):
    """Return the greatest mean per chance to take of each state, by all ways to go on and take; None without any."""
    best = [None] * len(project)
    for going in some_of(steps_of(project)):
        for taking in some_of(ends_of(project)):
            worths = [Fraction(0)] * len(project)
            chances = [Fraction(0)] * len(project)
            for state in taking:
                worths[state] = fraction(project.worth(state))
                chances[state] = Fraction(1)
            means = followed(project, going, worths)
            free = costless(project, going, chances)
            for state in range(len(project)):
                if free[state] > 0 and (best[state] is None or means[state] / free[state] > best[state]):
                    best[state] = means[state] / free[state]
    return best


def costless(project, going, fixed):
    """Return what followed returns for a project without costs."""
    size = len(project)
    matrix = [[int(row == column) for column in range(size)] for row in range(size)]
    for state in going:
        weights = sum(weight for weight, _ in project.rows[state][2])
        for weight, goal in project.rows[state][2]:
            matrix[state][goal] -= Fraction(weight, weights)
    return solve(matrix, list(fixed))


def least_shares(project, state, fairs):
    """Return the dict of least prices and their shares, by the runs over pairs (state, least price so far)."""
    def least(price, other):
        return None if price is None or other is None else min(price, other)

    first = (state, fairs[state])
    nodes = [first]
    for node in nodes:
        if project.kind(node[0]) == "step":
            for _, goal in project.rows[node[0]][2]:
                after = (goal, least(node[1], fairs[goal]))
                if after not in nodes:
                    nodes.append(after)
    matrix = [[int(row == column) for column in range(len(nodes))] for row in range(len(nodes))]
    for at, node in enumerate(nodes):
        if project.kind(node[0]) == "step":
            weights = sum(weight for weight, _ in project.rows[node[0]][2])
            for weight, goal in project.rows[node[0]][2]:
                matrix[at][nodes.index((goal, least(node[1], fairs[goal])))] -= Fraction(weight, weights)
    found = {}
    for target in nodes:
        if project.kind(target[0]) != "step":
            chance = solve(matrix, [int(node == target) for node in nodes])[0]
            price = target[1] if project.kind(target[0]) == "end" else None
            found[price] = found.get(price, 0) + chance
    return {price: share for price, share in found.items() if share != 0}
