"""Projects and families that several tests use."""

import itertools
import random

from greatestnext.errors import Endless
from greatestnext.families import Family, exchange_fault
from greatestnext.fracs import Frac
from greatestnext.houses import House, deeds, first_standing, outcomes
from greatestnext.projects import Project

ODD_VALUES = (
    None, True, False, 0, 1, -1, 7, 10 ** 399, -(10 ** 399), "", "none", "price", "stop", "0", (), [], (0,), [0], [()], [[0]],
    (True,), [False], Frac(0), Frac(1), [Frac(1)], (Frac(1, 2), None), [[[[]]]], ("none", (), ()), ((), ()), [None] * 6,
)

TRIES = Project([("step", 1, [(1, 0), (1, 1)]), ("end", 10)])
RISKY = Project([("step", 1, [(1, 1), (1, 2)]), ("end", 10), ("void",)])
VAIN = Project([("step", 1, [(1, 1), (1, 2)]), ("end", 10), ("step", 5, [(1, 3)]), ("void",)])
BOX = Project.box(1, [(1, 0), (1, 10)])
RING = Project([
    ("step", 1, [(1, 1)]), ("step", 0, [(2, 2), (1, 4)]), ("step", 2, [(1, 0), (1, 3)]), ("end", 7), ("end", -3), ("void",),
])
CHAIN = Project([
    ("step", 1, [(1, 1), (1, 5)]), ("step", 2, [(1, 2), (3, 6)]), ("step", 3, [(1, 3), (1, 7)]), ("step", 0, [(1, 4)]),
    ("end", 50), ("end", 3), ("void",), ("end", 20),
])
FREE = Project([("step", 0, [(1, 0), (1, 1)]), ("step", 0, [(1, 0), (1, 2)]), ("end", Frac(5, 3))])
DEAR = Project([("step", 9, [(1, 1), (2, 2)]), ("end", -4), ("step", 1, [(1, 3)]), ("end", 0)])
LOST = Project([("step", 0, [(1, 1)]), ("step", 2, [(1, 1), (1, 2)]), ("void",), ("end", 5)])
FULL = Project([
    ("step", Frac(1, 3), [(3, 0), (5, 1), (7, 2), (2, 5)]), ("step", 2, [(1, 0), (9, 2), (4, 3), (3, 6)]),
    ("step", Frac(7, 2), [(1, 0), (1, 1), (1, 2), (1, 3), (1, 4), (1, 5), (1, 6), (1, 7)]),
    ("step", 1, [(5, 1), (6, 4), (1, 7)]), ("step", 0, [(8, 2), (1, 7)]), ("end", 12), ("end", Frac(45, 7)), ("void",),
])
NAMED = (
    Project.sure(6), Project.sure(0), Project.sure(Frac(-7, 2)), Project([("void",)]), TRIES, RISKY, VAIN, BOX, RING, CHAIN,
    FREE, DEAR, LOST, FULL,
)


def random_row(chance, states):
    kind = chance.choice(["end", "end", "void", "step", "step", "step"])
    if kind == "end":
        return ("end", Frac(chance.randint(-8, 30), chance.choice([1, 1, 2, 3])))
    if kind == "void":
        return ("void",)
    goals = sorted(chance.sample(range(states), chance.randint(1, min(states, 3))))
    cost = Frac(chance.randint(0, 6), chance.choice([1, 1, 2]))
    return ("step", cost, [(chance.randint(1, 4), goal) for goal in goals])


def random_project(chance, most=5):
    """Return some project of at most this many states."""
    while True:
        states = chance.randint(1, most)
        try:
            return Project([random_row(chance, states) for _ in range(states)])
        except Endless:
            pass


def project_with_ends(chance, most=4):
    """Return some project without voids."""
    while True:
        project = random_project(chance, most)
        if ("void",) not in project.rows:
            return project


def some_projects(many, most=5, seed=1):
    chance = random.Random(seed)
    return [random_project(chance, most) for _ in range(many)]


def sets_below(size):
    """Return all sets of things below size, in order of size."""
    return [part for many in range(size + 1) for part in itertools.combinations(range(size), many)]


def all_families(size):
    """Return all families of this size."""
    found = {frozenset([()])}
    new = list(found)
    while new:
        sets = new.pop()
        for things in sets_below(size):
            parts = [part for part in sets_below(size) if set(part) < set(things)]
            if things not in sets and sets.issuperset(parts):
                wider = sets | {things}
                if wider not in found:
                    found.add(wider)
                    new.append(wider)
    return [Family(size, sorted(sets)) for sets in sorted(found, key=sorted)]


FAMILIES = [family for size in (1, 2, 3) for family in all_families(size)]
FOURS = all_families(4)
GOOD = [family for family in FAMILIES if exchange_fault(family) is None]
BAD = [family for family in FAMILIES if exchange_fault(family) is not None]


def random_family(chance, size):
    """Return some family of this size."""
    tops = [tuple(sorted(chance.sample(range(size), chance.randint(0, size)))) for _ in range(chance.randint(0, 4))]
    held = [part for part in sets_below(size) if part == () or any(set(part) <= set(top) for top in tops)]
    return Family(size, held)


def random_house(chance, most_things=3, most_states=3):
    """Return some house of at most this many things."""
    size = chance.randint(1, most_things)
    return House([random_project(chance, most_states) for _ in range(size)], random_family(chance, size))


def all_standings(house):
    """Return all standings of the house."""
    found = [()]
    for project in house.projects:
        found = [(*states, state) for states in found for state in range(len(project))]
    return [(taken, states) for taken in house.family.sets for states in found]


def good_house(chance, most_things=3, most_states=3):
    """Return some house of at most this many things whose family has the exchange property."""
    while True:
        house = random_house(chance, most_things, most_states)
        if exchange_fault(house.family) is None and len(house.family.sets) > 1:
            return house


def bad_house(chance, size=3, most_states=3):
    """Return some house of this many things whose family lacks the exchange property."""
    while True:
        family = random_family(chance, size)
        if exchange_fault(family) is not None:
            return House([random_project(chance, most_states) for _ in range(size)], family)


def some_plan(house, choose):
    """Return the plan that does choose(standing, deeds) at each standing that it reaches; None with more than 60."""
    plan = {}
    left = [first_standing(house)]
    while left:
        standing = left.pop()
        if standing not in plan:
            plan[standing] = choose(standing, deeds(house, standing))
            left.extend(after for _, after in outcomes(house, standing, plan[standing]))
        if len(plan) > 60:
            return None
    return tuple(sorted(plan.items()))


def some_plans(many, seed=1):
    """Return pairs of a house and a plan for it, most of them not too small."""
    chance = random.Random(seed)
    found = []
    while len(found) < many:
        house = random_house(chance, most_states=4)
        lazy = chance.random() < 0.3

        def choose(standing, possible):
            rest = possible if lazy or len(possible) == 1 else possible[1:]
            return chance.choice(rest)

        plan = some_plan(house, choose)
        if plan is not None and (len(plan) > 5 or len(found) % 6 == 0):
            found.append((house, plan))
    return found
