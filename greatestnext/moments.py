"""Moments of a house that is worked live: the house and the standing as they are behind a deed or a new project."""

from greatestnext.errors import InvalidDeed
from greatestnext.fracs import Frac
from greatestnext.houses import House, first_standing, gain_of, moved, need_deed, took
from greatestnext.values import is_whole, is_within
from greatestnext.worths import greedy_worth


class Moment:
    """What is so behind an entry of a journal; the entry of the first moment is None."""

    def __init__(self, entry, house_then, standing_then, earned_then):
        self.entry = entry
        self.house_then = house_then
        self.standing_then = standing_then
        self.earned_then = earned_then
        self.known_hope = None

    def hope_then(self):
        """Return what greatest_plan earns from here on."""
        # It is asked for before and behind each deed, and takes longer than all else.
        if self.known_hope is None:
            self.known_hope = greedy_worth(self.house_then, at=self.standing_then)
        return self.known_hope


def first_moment(house):
    """Return the moment in which nothing has been done."""
    return Moment(None, house, first_standing(house), Frac(0))


def need_goal(house, standing, deed, goal):
    """Raise InvalidDeed unless the goal can come of the deed: a state for work, None for a take."""
    if deed[0] == "take":
        is_right = goal is None
    else:
        goals = [state for _, state in house.projects[deed[1]].shares(standing[1][deed[1]])]
        is_right = is_whole(goal) and goal in goals
    if not is_right:
        raise InvalidDeed(goal)


def moment_after(moment, deed, goal):
    """Return the moment behind this deed, or raise InvalidDeed."""
    house = moment.house_then
    standing = moment.standing_then
    clean = need_deed(house, standing, deed)
    if clean == ("stop",):
        raise InvalidDeed(deed)
    need_goal(house, standing, clean, goal)
    thing = clean[1]
    after = took(standing, thing) if clean[0] == "take" else moved(standing, thing, goal)
    return Moment(("do", clean, goal), house, after, moment.earned_then + gain_of(house, standing, clean))


def need_free(moment, thing):
    """Raise InvalidDeed unless this is a thing that is not taken."""
    taken, states = moment.standing_then
    if not is_within(thing, 0, len(states) - 1) or thing in taken:
        raise InvalidDeed(thing)


def moment_with(moment, thing, project):
    """Return the moment behind the change of the thing's project, or raise InvalidDeed."""
    need_free(moment, thing)
    projects = list(moment.house_then.projects)
    projects[thing] = project
    house = House(projects, moment.house_then.family)
    return Moment(("put", thing, project), house, moved(moment.standing_then, thing, 0), moment.earned_then)
