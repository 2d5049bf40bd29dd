import copy
import random
import unittest

from greatestnext import accounts
from greatestnext.accounts import account
from greatestnext.errors import InvalidPlan
from greatestnext.families import from_tops, uniform
from greatestnext.fracs import Frac
from greatestnext.houses import House, first_standing, outcomes
from greatestnext.plans import plan_worth
from greatestnext.projects import Project
from greatestnext.worths import greatest_plan
from tests.checks import Checks, both_kinds, deep_list
from tests.interface import check_interface
from tests.reckon import best_games, best_ratios, fraction, solve
from tests.samples import BOX, LOST, ODD_VALUES, RISKY, TRIES, VAIN, some_plan, some_plans

PLANS = some_plans(50, seed=21)
HOUSE = House([VAIN], uniform(1, 1))
PLAN = (
    (((), (0,)), ("work", 0)), (((), (1,)), ("take", 0)), (((), (2,)), ("work", 0)), (((), (3,)), ("stop",)), (((0,), (1,)), ("stop",)),
)
STOP = ("stop",)
def hills(steps):
    """Return a project whose states of several prices follow one another in any order."""
    top = ("step", 0, [(1, at + 1) for at in range(steps)])
    return Project([top, *[("step", cost, [(1, 0), (1, steps + 1)]) for cost in range(steps)], ("end", 9)])


def texts(fracs):
    return [number.text() for number in fracs]


def least(price, other):
    return None if price is None or other is None else min(price, other)


def nodes_of(house, plan, fairs):
    """Return the pairs (standing, least prices so far), and for each the list of (share, place) of what follows."""
    deeds = dict(plan)
    start = first_standing(house)
    nodes = [(start, tuple(row[0] for row in fairs))]
    ways = []
    for standing, lows in nodes:
        ways.append([])
        for share, after in outcomes(house, standing, deeds[standing]):
            node = (after, tuple(least(low, row[state]) for low, row, state in zip(lows, fairs, after[1])))
            if node not in nodes:
                nodes.append(node)
            ways[-1].append((fraction(share), nodes.index(node)))
    return nodes, ways


def parts_at(house, fairs, standing, lows, deed):
    """Return what this standing adds to taken, lost and vain."""
    taken, states = standing
    if deed == STOP:
        left = [thing for thing in range(len(states)) if thing not in taken and lows[thing] is not None]
        return (
            sum(lows[thing] for thing in taken),
            sum(best_games(house.projects[thing], lows[thing])[states[thing]] for thing in left), 0,
        )
    if deed[0] == "work" and fairs[deed[1]][states[deed[1]]] is None:
        return (0, 0, fraction(house.projects[deed[1]].cost(states[deed[1]])))
    return (0, 0, 0)


def own_account(house, plan):
    """Return the triple by one equation for each pair of a standing and the least prices so far."""
    fairs = [best_ratios(project) for project in house.projects]
    nodes, ways = nodes_of(house, plan, fairs)
    deeds = dict(plan)
    parts = [parts_at(house, fairs, standing, lows, deeds[standing]) for standing, lows in nodes]
    matrix = [[int(row == column) for column in range(len(nodes))] for row in range(len(nodes))]
    for row, way in enumerate(ways):
        for share, at in way:
            matrix[row][at] -= share
    return [solve(matrix, [part[which] for part in parts])[0] for which in range(3)]


def by_turns(standing, possible):
    """Return work on one thing or the other, as the states have it."""
    rest = [deed for deed in possible if deed[0] == "work"] or list(possible[1:]) or [STOP]
    return rest[sum(standing[1]) % len(rest)]


class Interface(unittest.TestCase):
    def test_defined_here(self):
        check_interface(self, accounts, {"account": ["house", "plan"]})


class Accounts(Checks):
    def assert_account(self, house, plan, wanted):
        for passed in both_kinds(plan):
            found = account(house=house, plan=passed)
            self.assertIs(type(found), tuple)
            self.assertTrue(all(type(part) is Frac for part in found))
            self.assertEqual(texts(found), wanted)
        taken, lost, vain = found
        self.assertEqual(taken - lost - vain, plan_worth(house, plan))

    def test_known_ones(self):
        self.assert_account(HOUSE, PLAN, ["4", "0", "5/2"])
        self.assert_account(HOUSE, [(((), (0,)), STOP)], ["0", "0", "0"])
        self.assert_account(House([Project.sure(-3)], uniform(1, 1)), [(((), (0,)), ("take", 0)), (((0,), (0,)), STOP)], ["-3", "0", "0"])

    def test_things_left_in_other_states(self):
        # At the end 10 the least price is 8 on the way from state 0: leaving it there loses 2 in half of the runs.
        left = [(((), (0,)), ("work", 0)), (((), (1,)), STOP), (((), (2,)), STOP)]
        self.assert_account(House([BOX], uniform(1, 1)), left, ["0", "1", "0"])
        # With nothing done the game at the first price is worth 0.
        self.assert_account(House([BOX, TRIES], uniform(2, 2)), [(((), (0, 0)), STOP)], ["0", "0", "0"])

    def test_loops(self):
        plan = [(((), (0,)), ("work", 0)), (((), (1,)), STOP)]
        # Each try is worth 8, the end 10 after a least price of 8: all of the 2 is lost.
        self.assert_account(House([TRIES], uniform(1, 1)), plan, ["0", "2", "0"])
        taken = [(((), (0,)), ("work", 0)), (((), (1,)), ("take", 0)), (((0,), (1,)), STOP)]
        self.assert_account(House([TRIES], uniform(1, 1)), taken, ["8", "0", "0"])

    def test_work_without_an_end_ahead(self):
        house = House([Project([("step", 3, [(1, 0), (2, 1)]), ("void",)]), Project.sure(2)], uniform(2, 1))
        plan = [(((), (0, 0)), ("work", 0)), (((), (1, 0)), ("take", 1)), (((1,), (1, 0)), STOP)]
        self.assert_account(house, plan, ["2", "0", "9/2"])
        # In LOST no end can be reached from the first state on: the step of cost 2 is done twice in the mean.
        plan = [(((), (0,)), ("work", 0)), (((), (1,)), ("work", 0)), (((), (2,)), STOP)]
        self.assert_account(House([LOST], uniform(1, 1)), plan, ["0", "0", "4"])
        # Work that may still lead to an end is not in vain, even where it comes to a void.
        plan = [(((), (0,)), ("work", 0)), (((), (1,)), ("take", 0)), (((), (2,)), STOP), (((0,), (1,)), STOP)]
        self.assert_account(House([RISKY], uniform(1, 1)), plan, ["4", "0", "0"])

    def test_all_plans(self):
        kinds = [0, 0, 0]
        for house, plan in PLANS:
            found = account(house, plan)
            self.assertEqual([fraction(part) for part in found], own_account(house, plan))
            taken, lost, vain = found
            self.assertEqual(taken - lost - vain, plan_worth(house, plan))
            self.assertGreaterEqual(lost.num, 0)
            self.assertGreaterEqual(vain.num, 0)
            kinds = [many + (part.num != 0) for many, part in zip(kinds, found)]
        self.assertGreater(min(kinds), 10)

    def test_many_least_prices(self):
        # Many least prices come about at one and the same standing.
        for highest, lowest, many in ((3, 2, 81), (4, 3, 196)):
            house = House([hills(highest), hills(lowest)], uniform(2, 1))
            plan = some_plan(house, by_turns)
            nodes, _ = nodes_of(house, plan, [best_ratios(project) for project in house.projects])
            self.assertEqual(len(nodes), many)
            taken, lost, vain = account(house, plan)
            self.assertEqual(taken - lost - vain, plan_worth(house, plan))
            self.assertGreater(lost.num, 0)
            if many < 100:
                self.assertEqual([fraction(part) for part in (taken, lost, vain)], own_account(house, plan))

    def test_greatest_plans_lose_nothing(self):
        chance = random.Random(5)
        for house, _ in chance.sample(PLANS, 20):
            taken, lost, vain = account(house, greatest_plan(house))
            self.assertEqual(texts([lost, vain]), ["0", "0"])
            self.assertEqual(taken, plan_worth(house, greatest_plan(house)))


class Wrong(Checks):
    def test_invalid_plans(self):
        wrong = [*ODD_VALUES, PLAN[1:], PLAN[:2], PLAN[::-1], [*PLAN, PLAN[-1]], [*PLAN[:-1], (((0,), (2,)), STOP), PLAN[-1]]]
        for value in wrong:
            for plan in both_kinds(value):
                before = copy.deepcopy(plan)
                error = self.error_of(InvalidPlan, account, HOUSE, plan)
                self.assertIs(error.plan, plan)
                self.assertEqual(plan, before)


class Basics(Checks):
    def test_nothing_changes(self):
        plan = deep_list(PLAN)
        found = account(HOUSE, plan)
        self.assertEqual(plan, deep_list(PLAN))
        self.assertEqual(account(House([Project(VAIN.rows)], from_tops(1, [(0,)])), PLAN), found)
        plan[0][1][0] = "stop"
        self.assertEqual(texts(found), ["4", "0", "5/2"])

