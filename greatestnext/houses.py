"""Houses: a project for each thing of a family, and what can be done with them."""

from greatestnext.errors import InvalidDeed, InvalidStanding, WrongSize
from greatestnext.fracs import Frac
from greatestnext.things import joined
from greatestnext.values import is_row_of, is_whole, is_within


class House:
    """The projects, one for each thing, and the family of the sets that may be taken."""

    def __init__(self, projects, family):
        if len(projects) != family.size:
            raise WrongSize(len(projects))
        self.projects = tuple(projects)
        self.family = family


def clean_standing(house, standing):
    """Return the standing as tuples; None if it is no standing of the house."""
    if not is_row_of(standing, 2, 2):
        return None
    taken, states = standing
    size = house.family.size
    if taken not in house.family or not is_row_of(states, size, size):
        return None
    for project, state in zip(house.projects, states):
        if not is_within(state, 0, len(project) - 1):
            return None
    return (tuple(taken), tuple(states))


def need_standing(house, standing):
    """Return the standing as tuples, or raise InvalidStanding."""
    cleaned = clean_standing(house, standing)
    if cleaned is None:
        raise InvalidStanding(standing)
    return cleaned


def deeds_at(house, standing):
    """Return all deeds that can be done at this clean standing."""
    taken, states = standing
    addable = house.family.addable(taken)
    found = [("stop",)]
    for thing, project in enumerate(house.projects):
        kind = project.kind(states[thing])
        if kind == "step" and thing not in taken:
            found.append(("work", thing))
        if kind == "end" and thing in addable:
            found.append(("take", thing))
    return tuple(found)


def clean_deed(house, standing, deed):
    """Return the deed as a tuple; None if it is none that can be done at this clean standing."""
    if not is_row_of(deed, 1, 2):
        return None
    # Kinds come first, because True == 1.
    if len(deed) == 2 and not is_whole(deed[1]):
        return None
    cleaned = tuple(deed)
    return cleaned if cleaned in deeds_at(house, standing) else None


def need_deed(house, standing, deed):
    """Return the deed as a tuple, or raise InvalidDeed."""
    cleaned = clean_deed(house, standing, deed)
    if cleaned is None:
        raise InvalidDeed(deed)
    return cleaned


def moved(standing, thing, state):
    """Return the standing with the thing in this state."""
    taken, states = standing
    before = states[:thing]
    behind = states[thing + 1:]
    return (taken, (*before, state, *behind))


def took(standing, thing):
    """Return the standing with the thing taken."""
    taken, states = standing
    return (joined(taken, (thing,)), states)


def standings_after(house, standing, deed):
    """Return the outcomes of this deed at this clean standing."""
    if deed[0] == "stop":
        return ()
    thing = deed[1]
    if deed[0] == "take":
        return ((Frac(1), took(standing, thing)),)
    shares = house.projects[thing].shares(standing[1][thing])
    return tuple([(share, moved(standing, thing, goal)) for share, goal in shares])


def gain_of(house, standing, deed):
    """Return the gain of this deed at this clean standing."""
    if deed[0] == "stop":
        return Frac(0)
    thing = deed[1]
    project = house.projects[thing]
    state = standing[1][thing]
    if deed[0] == "take":
        return project.worth(state)
    return Frac(0) - project.cost(state)


def first_standing(house):
    """Return the standing in which nothing is taken and each project is in state 0."""
    return ((), (0,) * len(house.projects))


def deeds(house, standing):
    """Return all deeds that can be done, ("stop",) first, then by ascending thing."""
    return deeds_at(house, need_standing(house, standing))


def outcomes(house, standing, deed):
    """Return the pairs (share, standing) of what can come of the deed, by ascending standing."""
    cleaned = need_standing(house, standing)
    return standings_after(house, cleaned, need_deed(house, cleaned, deed))


def gain(house, standing, deed):
    """Return what the deed earns at once: a worth, a cost with the sign turned, or 0."""
    cleaned = need_standing(house, standing)
    return gain_of(house, cleaned, need_deed(house, cleaned, deed))
