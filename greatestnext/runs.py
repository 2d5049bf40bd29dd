"""Runs: what comes of always doing next_deed, with what chance decides told by draws."""

from greatestnext.fracs import Frac
from greatestnext.houses import first_standing, gain_of, moved, took
from greatestnext.worths import advised, all_fair_prices


def goal_drawn(goals, draw):
    """Return the goal on which the draw lies; each goal lies on as many numbers as its weight."""
    left = draw % sum([weight for weight, _ in goals])
    for weight, goal in goals:
        if left < weight:
            return goal
        left -= weight


def run(house, draws):
    """Return (steps, ended, earned) of doing next_deed until it stops or until a draw is lacking."""
    fairs = all_fair_prices(house)
    standing = first_standing(house)
    steps = []
    earned = Frac(0)
    used = 0
    deed = advised(house, fairs, standing)
    while deed != ("stop",):
        word, thing = deed
        earned_by_it = gain_of(house, standing, deed)
        if word == "take":
            standing = took(standing, thing)
        elif used < len(draws):
            _, _, goals = house.projects[thing].rows[standing[1][thing]]
            standing = moved(standing, thing, goal_drawn(goals, draws[used]))
            used += 1
        else:
            return (tuple(steps), False, earned)
        earned = earned + earned_by_it
        steps.append((deed, standing))
        deed = advised(house, fairs, standing)
    return (tuple(steps), True, earned)
