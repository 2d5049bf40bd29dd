import copy
import random
import time
import unittest
from fractions import Fraction

from greatestnext import worths
from greatestnext.compare import worse_at
from greatestnext.errors import InvalidStanding, NoExchange, TooMany
from greatestnext.families import Family, beside, exchange_fault, forests, from_tops, quotas, uniform, without
from greatestnext.fracs import Frac
from greatestnext.houses import House, deeds, first_standing, gain, outcomes
from greatestnext.plans import plan_fault, plan_worth
from greatestnext.prices import fair_price
from greatestnext.projects import Project
from greatestnext.weights import quotient
from greatestnext.worths import (
    added_worth, best_worth, bound, greatest_plan, greedy_worth, next_deed, spoiler,
)
from tests.checks import Checks, both_kinds, deep_list
from tests.interface import check_interface
from tests.reckon import (
    best_games, best_ratios, best_values, deed_value, drawn_shares, frac, fraction, greedy_weight, heaviest_weight,
    mean_of_draws, sets_behind,
)
from tests.samples import (
    BAD, BOX, CHAIN, DEAR, FOURS, FREE, FULL, GOOD, NAMED, ODD_VALUES, RING, RISKY, TRIES, VAIN, all_standings, bad_house,
    good_house, some_plans, some_projects,
)

ALONE = from_tops(3, [(0, 1), (2,)])
SURES = House([Project.sure(5), Project.sure(5), Project.sure(6)], ALONE)
BOXES = House([BOX, BOX, Project.sure(6)], uniform(3, 1))
STOP = ("stop",)
WRONG_STANDINGS = [
    *[value for value in ODD_VALUES if value is not None], ((), (0, 0)), ((), (0, 0, 0, 0)), ((0, 2), (0, 0, 0)), ((), (3, 0, 0)),
    ((), (True, 0, 0)), ((False,), (0, 0, 0)), [[1, 0], [0, 0, 0]], ((), (0, 0, 0), ()), "first", ((), (0, -1, 0)), (None, (0, 0, 0)),
]


def greedy_houses(many, seed):
    """Return some houses, with and without the exchange property by turns."""
    chance = random.Random(seed)
    return [good_house(chance) if at % 2 == 0 else bad_house(chance) for at in range(many)]


def prizes(many, first=1):
    """Return a project with this many least prices."""
    return Project.box(0, [(1, first + 3 * at) for at in range(many)])


class Interface(unittest.TestCase):
    def test_defined_here(self):
        check_interface(self, worths, {
            "next_deed": ["house", "standing"], "greatest_plan": ["house"], "spoiler": ["family", "many"],
            "greedy_worth": ["house", "at"], "bound": ["house", "at"], "best_worth": ["house", "at"],
            "added_worth": ["house", "thing"],
        })

    def test_at_by_name_only(self):
        for function in (greedy_worth, bound, best_worth):
            self.error_free(function)
            with self.assertRaises(TypeError):
                function(BOXES, first_standing(BOXES))

    def error_free(self, function):
        wanted = function(BOXES)
        self.assertEqual(function(house=BOXES), wanted)
        self.assertEqual(function(BOXES, at=None), wanted)
        self.assertEqual(function(at=first_standing(BOXES), house=BOXES), wanted)


class NextDeed(Checks):
    def wanted(self, house, standing, fairs):
        """Return the deed by the words of the document."""
        taken, states = standing
        found = []
        for thing in range(len(states)):
            price = fairs[thing][states[thing]]
            if thing not in taken and tuple(sorted([*taken, thing])) in house.family.sets and price is not None and price > 0:
                found.append((-price, thing))
        if not found:
            return STOP
        thing = min(found)[1]
        return ("take" if house.projects[thing].kind(states[thing]) == "end" else "work", thing)

    def test_all_standings(self):
        words = {}
        for house in [*greedy_houses(16, 31), House([BOX, BOX, TRIES], ALONE)]:
            fairs = [best_ratios(project) for project in house.projects]
            for standing in all_standings(house):
                wanted = self.wanted(house, standing, fairs)
                self.assertEqual(next_deed(house, standing), wanted)
                self.assert_tuples(next_deed(house=house, standing=deep_list(standing)))
                self.assertEqual(next_deed(house, deep_list(standing)), wanted)
                self.assertIn(wanted, deeds(house, standing))
                words[wanted[0]] = words.get(wanted[0], 0) + 1
        self.assertGreater(min(words[word] for word in ("stop", "take", "work")), 50)

    def test_known_ones(self):
        self.assertEqual(next_deed(BOXES, first_standing(BOXES)), ("work", 0))
        self.assertEqual(next_deed(BOXES, ((), (1, 0, 0))), ("work", 1))
        self.assertEqual(next_deed(BOXES, ((), (1, 1, 0))), ("take", 2))
        self.assertEqual(next_deed(BOXES, ((), (2, 2, 0))), ("take", 0))
        self.assertEqual(next_deed(BOXES, ((2,), (2, 2, 0))), STOP)
        self.assertEqual(next_deed(SURES, ((), (0, 0, 0))), ("take", 2))
        # Thing 2 is worth most, but it cannot be added any more.
        self.assertEqual(next_deed(SURES, ((0,), (0, 0, 0))), ("take", 1))

    def test_equal_prices(self):
        house = House([Project.sure(8), BOX, BOX, Project.sure(8)], uniform(4, 2))
        self.assertEqual(next_deed(house, ((), (0, 0, 0, 0))), ("take", 0))
        self.assertEqual(next_deed(house, ((0,), (0, 0, 0, 0))), ("work", 1))
        self.assertEqual(next_deed(house, ((0,), (0, 1, 0, 0))), ("work", 2))
        self.assertEqual(next_deed(house, ((0,), (0, 1, 1, 0))), ("take", 3))

    def test_nothing_above_0(self):
        for project in (Project.sure(0), Project.sure(-1), Project([("void",)]), DEAR, Project.box(5, [(1, 10), (1, 0)])):
            house = House([project], uniform(1, 1))
            price = fair_price(project, 0)
            self.assertTrue(price is None or price.num <= 0)
            self.assertEqual(next_deed(house, ((), (0,))), STOP)

    def test_invalid_standings(self):
        for standing in [None, *WRONG_STANDINGS]:
            before = copy.deepcopy(standing)
            self.assertIs(self.error_of(InvalidStanding, next_deed, BOXES, standing).value, standing)
            self.assertEqual(standing, before)


class GreatestPlan(Checks):
    def test_always_next_deed(self):
        for house in greedy_houses(30, 32):
            plan = greatest_plan(house)
            self.assert_tuples(plan)
            self.assertIsNone(plan_fault(house, plan))
            for standing, deed in plan:
                self.assertEqual(deed, next_deed(house, standing))
            self.assertEqual(greatest_plan(house=House(list(house.projects), house.family)), plan)

    def test_earns_greedy_worth(self):
        for house in [*greedy_houses(30, 33), House([TRIES, RING, FREE], uniform(3, 2)), House([CHAIN, VAIN], uniform(2, 1))]:
            self.assertEqual(plan_worth(house, greatest_plan(house)), greedy_worth(house))

    def test_many_standings(self):
        house = House([Project.box(0, [(1, 4 * at) for at in range(4)]), Project.box(2, [(1, 4 * at + 1) for at in range(5)]),
                       Project.box(1, [(1, 4 * at + 2) for at in range(6)])], uniform(3, 3))
        plan = greatest_plan(house)
        self.assertEqual(len(plan), 400)
        self.assertIsNone(plan_fault(house, plan))
        self.assertEqual(plan_worth(house, plan), best_worth(house))

    def test_too_many_standings(self):
        rows = ((0, (-2, 5, 6, 15, 14, 13, 17)), (1, (0,)), (0, (2, 5, 7, 14, 12, 22, 30)), (2, (2, 8, 11, 18)))
        just = House([Project.box(cost, [(1, worth) for worth in worths]) for cost, worths in rows], uniform(4, 2))
        far = House([prizes(7, at + 1) for at in range(6)], uniform(6, 6))
        for house in (just, far):
            self.assertEqual(self.error_of(TooMany, greatest_plan, house).what, "standings")


class GreedyAndBound(Checks):
    def test_known_ones(self):
        self.assertEqual([greedy_worth(SURES).text(), bound(SURES).text()], ["6", "10"])
        self.assertEqual([greedy_worth(BOXES).text(), bound(BOXES).text()], ["15/2", "15/2"])
        self.assertEqual(greedy_worth(SURES, at=((0,), (0, 0, 0))), Frac(5))
        self.assertEqual(greedy_worth(SURES, at=((0, 1), (0, 0, 0))), Frac(0))
        self.assertEqual(bound(SURES, at=[[2], [0, 0, 0]]), Frac(0))
        nothing = House([Project([("void",)]), Project.sure(-4), Project.sure(3)], from_tops(3, [(0, 1)]))
        self.assertEqual([greedy_worth(nothing).text(), bound(nothing).text()], ["0", "0"])

    def test_against_own_means(self):
        for house in greedy_houses(14, 34):
            shares = [[drawn_shares(project, state) for state in range(len(project))] for project in house.projects]

            def shares_of(project, state):
                at = next(at for at, other in enumerate(house.projects) if other is project)
                return shares[at][state]

            for standing in [first_standing(house), *all_standings(house)[1::3]]:
                for passed in both_kinds(standing):
                    found = [fraction(greedy_worth(house, at=passed)), fraction(bound(house, at=passed))]
                    self.assertEqual(found[0], mean_of_draws(house, standing, greedy_weight, shares_of))
                    self.assertEqual(found[1], mean_of_draws(house, standing, heaviest_weight, shares_of))

    def test_greedy_worth_is_earned_everywhere(self):
        for house in [*greedy_houses(12, 35), House([TRIES, FREE], uniform(2, 1)), House([RING, BOX], uniform(2, 2))]:
            values = {standing: fraction(greedy_worth(house, at=standing)) for standing in all_standings(house)}
            for standing, value in values.items():
                # These equations have one solution, because every plan stops with certainty.
                self.assertEqual(value, deed_value(house, values, standing, next_deed(house, standing)))

    def test_no_deed_goes_beyond_bound(self):
        equal = below = 0
        # Whether both boxes hold 10 would have to be known before: no plan earns the bound of 43/4.
        unknown = House([BOX, BOX, Project.sure(9)], ALONE)
        self.assertEqual(bound(unknown), Frac(43, 4))
        for house in [unknown, *greedy_houses(14, 36)]:
            values = {standing: fraction(bound(house, at=standing)) for standing in all_standings(house)}
            for standing, value in values.items():
                found = [deed_value(house, values, standing, deed) for deed in deeds(house, standing)]
                self.assertLessEqual(max(found), value)
                equal += max(found) == value
                below += max(found) < value
        self.assertGreater(min(equal, below), 0)

    def test_no_plan_earns_more_than_bound(self):
        for house, plan in some_plans(40, seed=37):
            self.assertFalse(bound(house).is_below(plan_worth(house, plan)))
            self.assertFalse(bound(house).is_below(greedy_worth(house)))

    def test_share_of_bound(self):
        for house in greedy_houses(12, 38):
            for standing in all_standings(house):
                behind = Family(house.family.size, sets_behind(house.family, standing[0]))
                share = quotient(behind)[0]
                greedy, most = greedy_worth(house, at=standing), bound(house, at=standing)
                self.assertFalse(greedy.is_below(share * most))
                if exchange_fault(behind) is None:
                    self.assertEqual(greedy, most)

    def test_3000_rows(self):
        family = from_tops(6, [(0, 1, 2), (3, 4), (1, 3, 5), (2, 4)])
        house = House([prizes(many, at + 1) for at, many in enumerate((5, 5, 5, 4, 6, 1))], family)
        started = time.monotonic()
        wanted = [mean_of_draws(house, first_standing(house), weigh) for weigh in (greedy_weight, heaviest_weight)]
        middle = time.monotonic()
        self.assertEqual([fraction(greedy_worth(house)), fraction(bound(house))], wanted)
        # The own reckoning needs some tenths of a second.
        self.assertLess(time.monotonic() - middle, 5 + middle - started)
        loops = House([FULL, CHAIN, RING, BOX, TRIES, RISKY], family)
        self.assertFalse(bound(loops).is_below(greedy_worth(loops)))

    def test_too_many_rows(self):
        for many in ((7, 6, 6, 6, 2, 1), (5, 5, 5, 5, 5, 1), (7, 7, 7, 7, 7, 7)):
            house = House([prizes(one) for one in many], uniform(6, 2))
            for function in (greedy_worth, bound):
                self.assertEqual(self.error_of(TooMany, function, house).what, "rows")
                self.assertEqual(self.error_of(TooMany, function, house, at=((), (0,) * 6)).what, "rows")

    def test_only_things_not_taken_and_their_states_count(self):
        house = House([prizes(7, 1), prizes(6, 2), prizes(6, 3), prizes(6, 4), prizes(2, 5)], uniform(5, 2))
        for function in (greedy_worth, bound):
            self.error_of(TooMany, function, house)
            self.error_of(TooMany, function, house, at=((), (0, 0, 0, 0, 0)))
            self.assertEqual(function(house, at=((), (0, 0, 0, 0, 1))), best_worth(house, at=((), (0, 0, 0, 0, 1))))
            # A taken thing counts as one row, whatever its state is.
            for state in (0, 2):
                taken = ((4,), (0, 0, 0, 0, state))
                self.assertEqual(function(house, at=taken), best_worth(house, at=taken))

    def test_prices_from_0_down_count_as_rows(self):
        loss = Project.box(0, [(1, -3 * at) for at in range(7)])
        none = Project([("step", 0, [(1, 1), (1, 2), (1, 3)]), ("void",), ("end", -1), ("end", 2)])
        house = House([loss, loss, loss, none, none], uniform(5, 1))
        self.error_of(TooMany, greedy_worth, house)
        # 7 * 7 * 7 * 3 * 3 = 3087; without the voids 1372.
        self.assertEqual(bound(house, at=((), (1, 0, 0, 0, 0))), Frac(10, 9))

    def test_invalid_standings(self):
        many = House([prizes(7)] * 6, uniform(6, 2))
        for function in (greedy_worth, bound):
            for standing in WRONG_STANDINGS:
                before = copy.deepcopy(standing)
                self.assertIs(self.error_of(InvalidStanding, function, BOXES, at=standing).value, standing)
                self.assertIs(self.error_of(InvalidStanding, function, many, at=standing).value, standing)
                self.assertEqual(standing, before)


class BestWorth(Checks):
    def test_known_ones(self):
        self.assertEqual(best_worth(BOXES).text(), "15/2")
        self.assertEqual(best_worth(House([BOX, BOX, Project.sure(6)], uniform(3, 3))).text(), "14")
        self.assertEqual(best_worth(House([BOX], uniform(1, 0))), Frac(0))
        self.assertEqual(best_worth(BOXES, at=((), (1, 1, 0))).text(), "6")
        self.assertEqual(best_worth(BOXES, at=[[2], [0, 0, 0]]).text(), "0")

    def test_no_deed_earns_more(self):
        chance = random.Random(41)
        for house in [good_house(chance) for _ in range(14)]:
            values = {standing: fraction(best_worth(house, at=standing)) for standing in all_standings(house)}
            for standing, value in values.items():
                found = {deed: deed_value(house, values, standing, deed) for deed in deeds(house, standing)}
                self.assertEqual(max(found.values()), value)
                self.assertEqual(found[next_deed(house, standing)], value)

    def test_against_better_and_better_plans(self):
        chance = random.Random(42)
        some = [good_house(chance, most_things=2, most_states=3) for _ in range(8)]
        for house in [*some, House([TRIES, RISKY], uniform(2, 1)), House([FREE, BOX], uniform(2, 1))]:
            standings = all_standings(house)
            for standing, value in best_values(house, standings).items():
                self.assertEqual(fraction(best_worth(house, at=standing)), value)

    def test_bound(self):
        chance = random.Random(43)
        for house in [*[good_house(chance) for _ in range(12)], House([RING, CHAIN, FULL], uniform(3, 2))]:
            for standing in all_standings(house)[::5]:
                for passed in both_kinds(standing):
                    self.assertEqual(best_worth(house, at=passed), bound(house, at=standing))
            self.assertEqual(best_worth(house), plan_worth(house, greatest_plan(house)) if len(house.projects) < 3 else bound(house))

    def test_far_more_than_3000_rows(self):
        # Halves of which a set each may be taken earn what they earn alone.
        ends = [("end", 9), ("end", Frac(-5, 3)), ("end", 30)]
        web = Project([*[("step", Frac(cost, 7), [(cost + at + 1, at) for at in range(8)]) for cost in range(5)], *ends])
        left = House([prizes(7), web, FULL], uniform(3, 1))
        right = House([web, CHAIN, Project.box(1, [(at + 1, 5 * at) for at in range(7)])], forests(3, [(0, 1), (1, 2), (0, 2)]))
        both = House([*left.projects, *right.projects], beside(left.family, right.family))
        self.error_of(TooMany, bound, both)
        started = time.monotonic()
        self.assertEqual(best_worth(both), bound(left) + bound(right))
        self.assertEqual(best_worth(House([web] * 6, uniform(6, 6))), total_of(bound(House([web], uniform(1, 1))), 6))
        self.assertFalse(bound(left).is_below(best_worth(House([web] * 3, uniform(3, 0)))))
        self.assertLess(time.monotonic() - started, 10)

    def test_errors_in_their_order(self):
        for family in BAD:
            house = House([BOX] * family.size, family)
            for at in (None, ((), (0,) * family.size), "none", [], True):
                error = self.error_of(NoExchange, best_worth, house, at=at)
                self.assertEqual((error.smaller, error.larger), exchange_fault(family))
        for standing in WRONG_STANDINGS:
            before = copy.deepcopy(standing)
            self.assertIs(self.error_of(InvalidStanding, best_worth, BOXES, at=standing).value, standing)
            self.assertEqual(standing, before)


def total_of(number, times):
    return frac(fraction(number) * times)


class MainPromise(Checks):
    def test_best_exactly_with_exchange(self):
        chance = random.Random(44)
        for family in [*GOOD, *BAD, *chance.sample(FOURS, 20)]:
            share = quotient(family)[0]
            self.assertEqual(share == Frac(1), exchange_fault(family) is None)
            house = House(some_projects(family.size, 4, chance.random()), family)
            self.assertFalse(greedy_worth(house).is_below(share * bound(house)))
            if share == Frac(1):
                self.assertEqual(greedy_worth(house), bound(house))

    def test_less_than_each_greater_share(self):
        for family in [*BAD, *[family for family in FOURS if exchange_fault(family) is not None][::9]]:
            share = quotient(family)[0]
            for more in (Frac(1, 10), Frac(1, 1000)):
                house = House(spoiler(family, 9998), family)
                self.assertTrue(plan_worth(house, greatest_plan(house)).is_below((share + more) * bound(house)))


class Spoiler(Checks):
    def test_all_families(self):
        for family in [*GOOD, *BAD, *FOURS[::4]]:
            share, things, small, large = quotient(family)
            for many in (1, 2, 9998):
                projects = spoiler(family=family, many=many)
                self.assertIs(type(projects), tuple)
                for thing, project in enumerate(projects):
                    worth = many + 1 if thing in small else many if thing in things else 0
                    self.assertEqual(project, Project.sure(worth))
                house = House(projects, family)
                earned = plan_worth(house, greatest_plan(house))
                self.assertEqual(earned, Frac(len(small) * (many + 1)))
                self.assertFalse((share * Frac(many + 1, many) * bound(house)).is_below(earned))
                self.assertFalse(bound(house).is_below(Frac(len(large) * many)))

    def test_known_one(self):
        self.assertEqual([project.worth(0).text() for project in spoiler(ALONE, 1)], ["1", "1", "2"])
        self.assertEqual([project.worth(0).text() for project in spoiler(uniform(2, 0), 5)], ["0", "0"])
        self.assertEqual([project.worth(0).text() for project in spoiler(from_tops(4, [(0, 1), (2,)]), 9998)], ["9998", "9998", "9999", "0"])


class AddedWorth(Checks):
    def games(self, house, thing, shares):
        """Return the mean of the game of the project at the price that the thing has for the others."""
        others = House([Project.sure(0) if at == thing else project for at, project in enumerate(house.projects)], house.family)

        def game(sets, weights):
            free = [held for held in sets if thing not in held]
            beside_it = [held for held in free if tuple(sorted([*held, thing])) in sets]
            price = heaviest_weight(free, weights) - heaviest_weight(beside_it, weights)
            return best_games(house.projects[thing], price)[0]

        def shares_of(project, state):
            return next(shares[at] for at, other in enumerate(others.projects) if other is project)

        return mean_of_draws(others, first_standing(others), game, shares_of)

    def test_less_the_house_without(self):
        chance = random.Random(46)
        above = 0
        for house in [good_house(chance) for _ in range(40)]:
            if len(house.projects) < 2:
                continue
            shares = [drawn_shares(project, 0) for project in house.projects]
            for thing in range(len(house.projects)):
                rest = [project for at, project in enumerate(house.projects) if at != thing]
                found = added_worth(house=house, thing=thing)
                self.assertEqual(found, best_worth(house) - best_worth(House(rest, without(house.family, thing))))
                self.assertGreaterEqual(found.num, 0)
                if any(thing in held for held in house.family.sets):
                    sure = [{Fraction(0): 1} if at == thing else one for at, one in enumerate(shares)]
                    self.assertEqual(fraction(found), self.games(house, thing, sure))
                else:
                    self.assertEqual(found, Frac(0))
                above += found.num > 0
        self.assertGreater(above, 20)

    def test_known_ones(self):
        self.assertEqual(added_worth(BOXES, 2).text(), "3/2")
        self.assertEqual(added_worth(House([BOX, Project.sure(7)], uniform(2, 2)), 0).text(), "4")
        loose = House([BOX, Project.sure(7)], Family(2, [(), (1,)]))
        self.assertEqual([added_worth(loose, 0).text(), added_worth(loose, 1).text()], ["0", "7"])

    def test_no_exchange(self):
        error = self.error_of(NoExchange, added_worth, SURES, 1)
        self.assertEqual((error.smaller, error.larger), ((2,), (0, 1)))


class Replacing(Checks):
    """The second bold sentence of point 10: worse_at is None exactly if a project can stand for the other."""

    def test_never_worse(self):
        chance = random.Random(47)
        projects = [*NAMED, *some_projects(20, 4, 48)]
        pairs = [(one, other) for one in projects for other in projects if one is not other and worse_at(one, other) is None]
        for one, other in chance.sample(pairs, 60):
            house = good_house(chance)
            rest = list(house.projects[1:])
            before = best_worth(House([other, *rest], house.family))
            self.assertFalse(best_worth(House([one, *rest], house.family)).is_below(before))

    def test_worse_somewhere(self):
        chance = random.Random(49)
        projects = [*NAMED, *some_projects(20, 4, 50)]
        pairs = [(one, other, worse_at(one, other)) for one in projects for other in projects]
        pairs = [(one, other, price) for one, other, price in pairs if price is not None and price.den < 100 and price.num < 9999]
        for one, other, price in chance.sample(pairs, 60):
            # Beside a thing that is sure to be worth this price only what is above it counts.
            before = best_worth(House([other, Project.sure(price)], uniform(2, 1)))
            self.assertTrue(best_worth(House([one, Project.sure(price)], uniform(2, 1))).is_below(before))


class Basics(Checks):
    def test_nothing_changes(self):
        standing = [[], [0, 0, 0]]
        for function in (greedy_worth, bound, best_worth):
            found = function(BOXES, at=standing)
            self.assertEqual(standing, [[], [0, 0, 0]])
            other = House((Project(BOX.rows), Project(BOX.rows), Project.sure(Frac(6))), Family(3, [(), (2,), (1,), (0,)]))
            self.assertEqual(function(other), found)
            self.assertIs(type(found), Frac)
        self.assertEqual(next_deed(BOXES, standing), ("work", 0))
        self.assertEqual(standing, [[], [0, 0, 0]])

    def test_states_count_and_taken_things_do_not(self):
        house = House([BOX, BOX, Project.sure(6)], quotas(3, [((0, 1), 1)]))
        self.assertEqual(best_worth(house, at=((0,), (2, 0, 0))), Frac(6))
        self.assertEqual(best_worth(house, at=((2,), (2, 0, 0))), Frac(10))
        for standing in all_standings(house):
            worth = gain(house, standing, STOP)
            self.assertEqual([worth, outcomes(house, standing, STOP)], [Frac(0), ()])
