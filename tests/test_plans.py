import copy
import unittest
from fractions import Fraction

from greatestnext import plans
from greatestnext.errors import InvalidPlan
from greatestnext.families import from_tops, uniform
from greatestnext.fracs import Frac, total
from greatestnext.houses import House, deeds, first_standing, gain, outcomes
from greatestnext.plans import plan_fault, plan_worth, taken_shares
from greatestnext.projects import Project
from tests.checks import Checks, both_kinds, deep_list
from tests.interface import check_interface
from tests.reckon import frac, fraction, solve
from tests.samples import BOX, FREE, ODD_VALUES, RING, TRIES, VAIN, some_plan, some_plans

PLANS = some_plans(60)
HOUSE = House([VAIN], uniform(1, 1))
PLAN = (
    (((), (0,)), ("work", 0)), (((), (1,)), ("take", 0)), (((), (2,)), ("work", 0)), (((), (3,)), ("stop",)), (((0,), (1,)), ("stop",)),
)
STOP = ("stop",)


def busy_plan(house):
    """Return the plan that always does the last deed that can be done."""
    return some_plan(house, lambda standing, possible: possible[-1])


def worth_from_values(house, plan):
    """Return the mean gain by one equation for each standing's value."""
    standings = [standing for standing, _ in plan]
    matrix = [[int(row == at) for at in range(len(plan))] for row in range(len(plan))]
    right = []
    for row, (standing, deed) in enumerate(plan):
        right.append(fraction(gain(house, standing, deed)))
        for share, after in outcomes(house, standing, deed):
            matrix[row][standings.index(after)] -= fraction(share)
    return solve(matrix, right)[0]


def shares_from_values(house, plan):
    """Return the share of each set in the end by one equation for each standing."""
    standings = [standing for standing, _ in plan]
    matrix = [[int(row == at) for at in range(len(plan))] for row in range(len(plan))]
    for row, (standing, deed) in enumerate(plan):
        for share, after in outcomes(house, standing, deed):
            matrix[row][standings.index(after)] -= fraction(share)
    found = []
    for taken in house.family.sets:
        right = [int(deed == STOP and standing[0] == taken) for standing, deed in plan]
        if any(right):
            found.append((taken, frac(solve(matrix, right)[0])))
    return tuple(found)


class Interface(unittest.TestCase):
    def test_defined_here(self):
        names = ["house", "plan"]
        check_interface(self, plans, {"plan_fault": names, "plan_worth": names, "taken_shares": names})


class Faults(Checks):
    def assert_fault(self, house, plan, fault):
        before = copy.deepcopy(plan)
        found = plan_fault(house, plan)
        self.assertEqual(found, fault)
        self.assert_tuples(found)
        if found is not None and found[0] == "pair":
            self.assertIs(type(found[1]), int)
        for function in (plan_worth, taken_shares):
            error = self.error_of(InvalidPlan, function, house, plan)
            self.assertIs(error.plan, plan)
        self.assertEqual(plan, before)

    def test_no_fault(self):
        self.assertIsNone(plan_fault(HOUSE, PLAN))
        self.assertIsNone(plan_fault(house=HOUSE, plan=deep_list(PLAN)))
        self.assertIsNone(plan_fault(HOUSE, [(((), (0,)), STOP)]))
        for house, plan in PLANS:
            for passed in both_kinds(plan):
                self.assertIsNone(plan_fault(house, passed))

    def test_no_list_or_tuple(self):
        for value in ODD_VALUES:
            if not isinstance(value, (list, tuple)):
                self.assert_fault(HOUSE, value, ("pair", 0))
        self.assert_fault(HOUSE, {first_standing(HOUSE): STOP}, ("pair", 0))
        self.assert_fault(HOUSE, "", ("pair", 0))

    def test_wrong_elements(self):
        for house, plan in [(HOUSE, PLAN), *PLANS[:6]]:
            for at in range(len(plan)):
                standing, deed = plan[at]
                wrong = [*ODD_VALUES, (standing,), (standing, deed, deed), (deed, standing), standing, deed]
                wrong += [(standing, "stop"), (standing, None)]
                wrong += [(value, deed) for value in ODD_VALUES] + [[standing, value] for value in ODD_VALUES]
                wrong += [(standing, (word, thing)) for word in ("work", "take") for thing in (-1, 5, True, False, None, "0")]
                for value in wrong:
                    self.assert_fault(house, (*plan[:at], value, *plan[at + 1:]), ("pair", at))
                    self.assert_fault(house, [*plan[:at], value], ("pair", at))

    def test_deeds_that_cannot_be_done(self):
        for at in range(5):
            for deed in (STOP, ("work", 0), ("take", 0)):
                if deed not in deeds(HOUSE, PLAN[at][0]):
                    self.assert_fault(HOUSE, (*PLAN[:at], (PLAN[at][0], deed), *PLAN[at + 1:]), ("pair", at))

    def test_first_place_counts(self):
        self.assert_fault(HOUSE, [PLAN[0], None, PLAN[1], "x"], ("pair", 1))
        self.assert_fault(HOUSE, [PLAN[1], PLAN[0], None], ("pair", 1))
        self.assert_fault(HOUSE, [PLAN[0], PLAN[2], PLAN[1]], ("pair", 2))

    def test_order_of_standings(self):
        for house, plan in PLANS:
            for at in range(1, len(plan)):
                twice = [*plan[:at], plan[at - 1], *plan[at:]]
                self.assert_fault(house, twice, ("pair", at))
                swapped = [*plan[:at - 1], plan[at], plan[at - 1], *plan[at + 1:]]
                self.assert_fault(house, swapped, ("pair", at))
        other = [(((), (0,)), ("work", 0)), (((), (0,)), STOP)]
        self.assert_fault(HOUSE, other, ("pair", 1))
        # As tuples compare, (0, 1) stands before (1,).
        house = House([Project.sure(1)] * 2, uniform(2, 2))
        taken = [(((), (0, 0)), STOP), (((0, 1), (0, 0)), STOP), (((1,), (0, 0)), STOP)]
        self.assert_fault(house, taken, ("needless", ((0, 1), (0, 0))))
        self.assert_fault(house, [taken[0], taken[2], taken[1]], ("pair", 2))

    def test_missing(self):
        self.assert_fault(HOUSE, (), ("missing", ((), (0,))))
        self.assert_fault(HOUSE, [], ("missing", ((), (0,))))
        for house, plan in [(HOUSE, PLAN), *PLANS]:
            for at in range(len(plan)):
                self.assert_fault(house, [*plan[:at], *plan[at + 1:]], ("missing", plan[at][0]))
            if len(plan) > 2:
                # The needed standings of the pairs that are left count, the first one that is missing in order.
                needed = {after for standing, deed in plan[:1] for _, after in outcomes(house, standing, deed)}
                lacking = sorted(needed - {plan[0][0]})
                if lacking:
                    self.assert_fault(house, plan[:1], ("missing", lacking[0]))
                needed = {plan[0][0]} | {after for standing, deed in plan[-1:] for _, after in outcomes(house, standing, deed)}
                self.assert_fault(house, plan[-1:], ("missing", min(needed)))

    def test_needless(self):
        self.assert_fault(HOUSE, [(((), (0,)), STOP), (((), (3,)), STOP)], ("needless", ((), (3,))))
        wide = [(((), (0,)), STOP), (((), (1,)), ("take", 0)), (((), (2,)), STOP), (((0,), (1,)), STOP)]
        self.assert_fault(HOUSE, wide, ("needless", ((), (1,))))
        # Two standings that only lead to one another are never reached.
        ring = House([RING], uniform(1, 1))
        stop = [(((), (0,)), STOP), (((), (1,)), ("work", 0)), (((), (2,)), STOP), (((), (4,)), STOP)]
        self.assert_fault(ring, stop, ("needless", ((), (1,))))
        free = House([FREE, FREE], uniform(2, 1))
        pairs = [(((), (0, 0)), STOP), (((), (0, 1)), ("work", 1)), (((), (0, 2)), STOP)]
        self.assert_fault(free, pairs, ("needless", ((), (0, 1))))
        self.assert_fault(House([TRIES, TRIES], uniform(2, 1)), [
            (((), (0, 0)), STOP), (((), (1, 0)), ("work", 1)), (((), (1, 1)), STOP),
        ], ("needless", ((), (1, 0))))
        for house, plan in PLANS[:20]:
            if len(plan) > 1:
                stopped = ((plan[0][0], STOP), *plan[1:])
                needed = {after for standing, deed in stopped for _, after in outcomes(house, standing, deed)} | {plan[0][0]}
                if all(standing in [pair[0] for pair in stopped] for standing in needed):
                    if plan[0][1] != STOP:
                        self.assert_fault(house, stopped, ("needless", plan[1][0]))

    def test_missing_before_needless(self):
        self.assert_fault(HOUSE, [(((), (0,)), STOP), (((), (2,)), ("work", 0))], ("missing", ((), (3,))))


class Worths(Checks):
    def test_known_ones(self):
        self.assertEqual(plan_worth(HOUSE, PLAN), Frac(3, 2))
        self.assertEqual(plan_worth(house=HOUSE, plan=deep_list(PLAN)), Frac(3, 2))
        self.assertEqual(taken_shares(HOUSE, PLAN), (((), Frac(1, 2)), ((0,), Frac(1, 2))))
        self.assertEqual(taken_shares(house=HOUSE, plan=deep_list(PLAN)), (((), Frac(1, 2)), ((0,), Frac(1, 2))))
        still = [(((), (0,)), STOP)]
        self.assertEqual(plan_worth(HOUSE, still), Frac(0))
        self.assertIs(type(plan_worth(HOUSE, still)), Frac)
        self.assertEqual(taken_shares(HOUSE, still), (((), Frac(1)),))

    def test_loops(self):
        house = House([TRIES], uniform(1, 1))
        plan = busy_plan(house)
        self.assertEqual(plan_worth(house, plan), Frac(8))
        self.assertEqual(taken_shares(house, plan), (((0,), Frac(1)),))
        both = House([RING, TRIES], uniform(2, 2))

        def by_turns(standing, possible):
            return possible[1 + sum(standing[1]) % (len(possible) - 1)] if len(possible) > 1 else STOP

        plan = some_plan(both, by_turns)
        self.assertGreater(len(plan), 10)
        self.assertEqual(fraction(plan_worth(both, plan)), worth_from_values(both, plan))
        self.assertEqual(taken_shares(both, plan), shares_from_values(both, plan))

    def test_order_of_size(self):
        house = House([BOX, Project.sure(1)], uniform(2, 2))

        def choose(standing, possible):
            taken, states = standing
            if states[0] == 0:
                return ("work", 0)
            if states[0] == 1:
                return ("take", 0) if 0 not in taken else ("take", 1) if 1 not in taken else STOP
            return ("take", 1) if 1 not in taken else STOP

        plan = some_plan(house, choose)
        self.assertEqual(taken_shares(house, plan), (((1,), Frac(1, 2)), ((0, 1), Frac(1, 2))))

    def test_against_values(self):
        for house, plan in PLANS:
            wanted = worth_from_values(house, plan)
            shares = shares_from_values(house, plan)
            for passed in both_kinds(plan):
                self.assertEqual(fraction(plan_worth(house, passed)), wanted)
                self.assertEqual(taken_shares(house, passed), shares)
            self.assert_tuples(taken_shares(house, plan))
            self.assertEqual(total([share for _, share in shares]), Frac(1))
            self.assertTrue(all(share.num > 0 for _, share in shares))
            self.assertEqual([taken for taken, _ in shares], sorted([taken for taken, _ in shares], key=lambda held: (len(held), held)))

    def test_many_loops_in_one_plan(self):
        step = ("step", Frac(1, 97), [(997, 0), (991, 1), (983, 2), (7, 3)])
        webs = Project([step, step, step, ("end", Frac(9973, 89))])
        house = House([webs, webs, Project.sure(1)], from_tops(3, [(0, 1), (2,)]))

        def choose(standing, possible):
            return possible[1 + sum(standing[1]) % 2] if len(possible) > 2 else possible[-1]

        plan = some_plan(house, choose)
        self.assertGreater(len(plan), 14)
        self.assertEqual(fraction(plan_worth(house, plan)), worth_from_values(house, plan))

    def test_nothing_changes(self):
        plan = deep_list(PLAN)
        first = plan_worth(HOUSE, plan)
        taken_shares(HOUSE, plan)
        self.assertEqual(plan, deep_list(PLAN))
        self.assertEqual(plan_worth(House([Project(VAIN.rows)], uniform(1, 1)), PLAN), first)
        self.assertEqual(Fraction(first.num, first.den), Fraction(3, 2))
