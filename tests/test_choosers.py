import copy
import itertools
import random
import unittest
from fractions import Fraction

from greatestnext import choosers
from greatestnext.choosers import Chooser, best_game, enough_rule, rule_gap
from greatestnext.errors import Endless, InvalidDeed, InvalidProject
from greatestnext.families import uniform
from greatestnext.fracs import Frac
from greatestnext.houses import House
from greatestnext.prices import game_worth, least_prices
from greatestnext.projects import Project
from greatestnext.worths import best_worth
from tests.checks import Checks, deep_list, deep_tuple
from tests.interface import check_interface
from tests.reckon import best_games, fraction
from tests.samples import ODD_VALUES, good_house, random_row

PLAIN = Chooser([("choose", [(1, [(1, 1), (1, 2)]), (2, [(1, 2)])]), ("end", 0), ("end", 6)])
SPLIT_ROWS = [("choose", [(0, [(1, 1), (1, 2)]), (0, [(1, 3)])]), ("end", 0), ("end", 10), ("end", 6)]
SPLIT = Chooser(SPLIT_ROWS)
TO_0 = (0, [(1, 0)])
TO_1 = (0, [(1, 1)])


def random_option(chance, states):
    goals = sorted(chance.sample(range(states), chance.randint(1, min(states, 3))))
    return (Frac(chance.randint(0, 6), chance.choice([1, 2])), [(chance.randint(1, 4), goal) for goal in goals])


def random_chooser(chance):
    while True:
        states = chance.randint(2, 6)
        rows = [random_row(chance, states) for _ in range(states)]
        for state in chance.sample(range(states), chance.randint(1, min(3, states - 1))):
            rows[state] = ("choose", [random_option(chance, states) for _ in range(chance.randint(1, 3))])
        try:
            return Chooser(rows)
        except Endless:
            pass


def daring_chooser(chance):
    """Return a chooser of a first choice between ends; often each price has another best option."""
    options = [(chance.randint(0, 2), [(chance.randint(1, 3), goal) for goal in sorted(chance.sample(range(1, 6), 2))]) for _ in range(3)]
    return Chooser([("choose", options), *[("end", chance.randint(0, 20)) for _ in range(5)]])


def some_choosers(many, seed):
    chance = random.Random(seed)
    daring = [daring_chooser(chance) for _ in range(many // 4)]
    return [PLAIN, SPLIT, *daring, *[random_chooser(chance) for _ in range(many - many // 4)]]


def own_rules(rows):
    return sorted(itertools.product(*[range(len(row[1])) if row[0] == "choose" else (0,) for row in rows]))


def own_project(rows, rule):
    return Project([("step", *row[1][option]) if row[0] == "choose" else row for row, option in zip(rows, rule)])


def prices_to_try(chooser):
    """Return 0 and all prices above 0 at which the game of some rule may bend, and some between them."""
    found = {Fraction(0)}
    for rule in chooser.rules():
        found |= {fraction(price) for price, _ in least_prices(chooser.under(rule), 0) if price is not None and price.num > 0}
    row = sorted(found)
    between = [(low + high) / 2 for low, high in zip(row, row[1:])]
    return [Frac(price.numerator, price.denominator) for price in [*row, *between, row[-1] + 1]]


class Interface(unittest.TestCase):
    def test_defined_here(self):
        check_interface(self, choosers, {
            "Chooser": ["rows"], "best_game": ["chooser", "state", "price"], "rule_gap": ["chooser", "rule"],
            "enough_rule": ["chooser"],
        })
        for name in ("__init__", "rules", "under"):
            self.assertIn(name, vars(Chooser))


class Making(Checks):
    def test_rows(self):
        wanted = (
            ("choose", ((Frac(0), ((1, 1), (1, 2))), (Frac(0), ((1, 3),)))), ("end", Frac(0)), ("end", Frac(10)), ("end", Frac(6)),
        )
        for rows in (SPLIT_ROWS, deep_list(SPLIT_ROWS), deep_tuple(SPLIT_ROWS)):
            before = copy.deepcopy(rows)
            chooser = Chooser(rows=rows)
            self.assertEqual(chooser.rows, wanted)
            self.assert_tuples(chooser.rows)
            self.assertEqual(rows, before)

    def test_later_changes_have_no_effect(self):
        rows = deep_list(SPLIT_ROWS)
        chooser = Chooser(rows)
        rows[0][1][0][1][0][0] = 7
        rows[1][1] = 5
        rows.append(["void"])
        self.assertEqual(chooser.rows, SPLIT.rows)

    def test_edges(self):
        step = ("step", Frac(9999, 99), [(999, at) for at in range(6)])
        choose = ("choose", [(9999, [(999, at) for at in range(6)]), (0, [(1, 5)]), (Frac(1, 99), [(1, 4), (1, 5)])])
        rows = [choose, choose, choose, step, ("end", Frac(-9999, 98)), ("void",)]
        self.assertEqual(len(Chooser(rows).rules()), 27)
        self.assertEqual(Chooser([("void",)]).rules(), ((0,),))
        self.assertEqual(Chooser([("choose", [TO_1]), ("end", 1)]).rules(), ((0, 0),))

    def test_no_rows(self):
        for rows in [*ODD_VALUES, [("void",)] * 7, (("void",),) * 8, {"void": 0}]:
            if not isinstance(rows, (list, tuple)) or not 1 <= len(rows) <= 6:
                self.assertIsNone(self.error_of(InvalidProject, Chooser, rows).state)

    def assert_wrong(self, row, states=2):
        """Check that this row is refused at each place."""
        for at in range(states):
            rows = [("end", 1)] * states
            rows[at] = row
            for passed in (rows, tuple(rows)):
                before = copy.deepcopy(passed)
                self.assertEqual(self.error_of(InvalidProject, Chooser, passed).state, at)
                self.assertEqual(passed, before)
            self.assertEqual(self.error_of(InvalidProject, Chooser, [*rows[:at], row, row, *rows[at:]]).state, at)

    def test_wrong_rows(self):
        good = (1, [(1, 0), (2, 1)])
        for value in ODD_VALUES:
            self.assert_wrong(value)
            self.assert_wrong((value, [good]))
            self.assert_wrong(("choose", value))
            self.assert_wrong(("choose", [value]))
            self.assert_wrong(["choose", [good, value]])
            self.assert_wrong(("choose", [good], value))
            if type(value) is not Frac and (type(value) is not int or not 0 <= value <= 9999):
                self.assert_wrong(("choose", [good, (value, [(1, 0)])]))
            self.assert_wrong(("choose", [good, (1, value)]))
            self.assert_wrong(("choose", [good, (1, [value])]))
            if type(value) is not int or not 1 <= value <= 999:
                self.assert_wrong(("choose", [good, (1, [(value, 0)])]))
            if type(value) is not int or value not in (0, 1):
                self.assert_wrong(("choose", [good, (1, [(1, value)])]))
        for option in (
            (-1, [(1, 0)]), (10000, [(1, 0)]), (Frac(1, 100), [(1, 0)]), (1, []), (1, [(0, 0)]), (1, [(1000, 0)]), (1, [(1, 1), (1, 0)]),
            (1, [(1, 0), (1, 0)]), (1, [(1, 4)]), (1,), (1, [(1, 0)], 1), ("step", 1, [(1, 0)]), (True, [(1, 0)]), (1, [(True, 0)]),
        ):
            self.assert_wrong(("choose", [good, option]))
            self.assert_wrong(("choose", [option]))
        for row in (
            ("choose",), ("choose", []), ("choose", [good] * 4), ("choose", good), ("choose", 1, [(1, 0)]), ("Choose", [good]),
            ("choose", [good], [good]), ("end",), ("end", 10000), ("void", 1), ("step", 1), ("step", -1, [(1, 0)]), ("step", [good]),
        ):
            self.assert_wrong(row)

    def test_fourth_choice(self):
        choose = ("choose", [(0, [(1, 5)])])
        end = ("end", 1)
        self.assertEqual(self.error_of(InvalidProject, Chooser, [choose, choose, choose, choose, end, end]).state, 3)
        self.assertEqual(self.error_of(InvalidProject, Chooser, [choose, end, choose, choose, choose, end]).state, 4)
        self.assertEqual(self.error_of(InvalidProject, Chooser, [choose, choose, choose, choose, choose, end]).state, 3)
        self.assertEqual(self.error_of(InvalidProject, Chooser, [choose, choose, choose, None, choose, end]).state, 3)
        self.assertEqual(self.error_of(InvalidProject, Chooser, [choose, choose, choose, choose, None, end]).state, 3)
        self.assertEqual(self.error_of(InvalidProject, Chooser, [choose, None, choose, choose, choose, end]).state, 1)
        self.assertEqual(len(Chooser([choose, choose, choose, end, end, end]).rules()), 1)

    def test_endless(self):
        self.assertEqual(self.error_of(Endless, Chooser, [("choose", [TO_1, TO_0]), ("end", 1)]).state, 0)
        self.assertEqual(self.error_of(Endless, Chooser, [("end", 1), ("choose", [TO_0, TO_1])]).state, 1)
        self.assertEqual(self.error_of(Endless, Chooser, [("step", 0, [(1, 0)]), ("choose", [TO_0, TO_1])]).state, 0)
        # Under the rule (0, 1, 0) state 1 is endless, under the later rule (1, 0, 0) only state 0.
        rows = [("choose", [(0, [(1, 2)]), (0, [(1, 0)])]), ("choose", [(0, [(1, 2)]), (0, [(1, 1)])]), ("end", 0)]
        self.assertEqual(self.error_of(Endless, Chooser, rows).state, 1)
        # A wrong row comes before a state without an end.
        self.assertEqual(self.error_of(InvalidProject, Chooser, [("choose", [TO_0]), ("end", None)]).state, 1)

    def test_endless_against_all_rules(self):
        chance = random.Random(71)
        many = 0
        for _ in range(300):
            states = chance.randint(2, 5)
            rows = [random_row(chance, states) for _ in range(states)]
            for state in chance.sample(range(states), chance.randint(1, 2)):
                rows[state] = ("choose", [random_option(chance, states) for _ in range(chance.randint(1, 3))])
            wanted = None
            for rule in own_rules(rows):
                try:
                    own_project(rows, rule)
                except Endless as error:
                    wanted = error.state
                    break
            if wanted is None:
                self.assertEqual(Chooser(rows).rules(), tuple(own_rules(rows)))
            else:
                self.assertEqual(self.error_of(Endless, Chooser, rows).state, wanted)
                many += 1
        self.assertGreater(many, 50)


class Rules(Checks):
    def test_all_rules(self):
        for chooser in some_choosers(20, 72):
            rules = chooser.rules()
            self.assert_tuples(rules)
            self.assertEqual(list(rules), own_rules(chooser.rows))
            for rule in rules:
                project = chooser.under(rule)
                self.assertEqual(project, own_project(chooser.rows, rule))
                self.assertEqual(chooser.under(rule=list(rule)), project)
                self.assert_tuples(project.rows)

    def test_no_rules(self):
        wrong = [
            *ODD_VALUES, (2, 0, 0), (0, 1, 0), (-1, 0, 0), (True, 0, 0), (0, False, 0), (0, 0), (0, 0, 0, 0), [1, 0, None], ("1", 0, 0),
            (Frac(0), 0, 0), "000", ((0,), 0, 0), {0: 0, 1: 1, 2: 2},
        ]
        for rule in wrong:
            before = copy.deepcopy(rule)
            self.assertIs(self.error_of(InvalidDeed, PLAIN.under, rule).deed, rule)
            self.assertIs(self.error_of(InvalidDeed, rule_gap, PLAIN, rule).deed, rule)
            self.assertEqual(rule, before)
        self.assertIs(self.error_of(InvalidDeed, Chooser([("end", 1)]).under, [False]).deed.__class__, list)


class Games(Checks):
    def test_known_ones(self):
        self.assertEqual([best_game(SPLIT, 0, 0).text(), best_game(SPLIT, 0, 8).text()], ["6", "1"])
        self.assertEqual(best_game(chooser=SPLIT, state=2, price=Frac(1, 2)).text(), "19/2")
        self.assertEqual(best_game(PLAIN, 0, -1).text(), "5")
        self.assertEqual(best_game(PLAIN, 0, 10 ** 399), Frac(0))

    def test_greatest_over_the_rules(self):
        for chooser in some_choosers(15, 73):
            for price in prices_to_try(chooser)[::2]:
                games = [best_games(chooser.under(rule), fraction(price)) for rule in chooser.rules()]
                for state in range(len(chooser.rows)):
                    self.assertEqual(fraction(best_game(chooser, state, price)), max(game[state] for game in games))

    def test_no_way_of_choosing_gains_more(self):
        for chooser in some_choosers(25, 74):
            for price in prices_to_try(chooser)[::2]:
                heights = [best_game(chooser, state, price) for state in range(len(chooser.rows))]
                for state, row in enumerate(chooser.rows):
                    ways = [Frac(0)]
                    if row[0] == "end":
                        ways.append(row[1] - price)
                    for cost, goals in row[1] if row[0] == "choose" else [row[1:]] if row[0] == "step" else []:
                        weights = sum(weight for weight, _ in goals)
                        mean = sum(Fraction(weight, weights) * fraction(heights[goal]) for weight, goal in goals) - fraction(cost)
                        ways.append(Frac(mean.numerator, mean.denominator))
                    self.assertEqual(fraction(heights[state]), max(fraction(way) for way in ways))


class Gaps(Checks):
    def test_against_games(self):
        counts = {True: 0, False: 0}
        for chooser in some_choosers(40, 75):
            prices = prices_to_try(chooser)
            most = [best_game(chooser, 0, price) for price in prices]
            enough = None
            for rule in chooser.rules():
                project = chooser.under(rule)
                is_best = all(game_worth(project, 0, price) == best for price, best in zip(prices, most))
                gap = rule_gap(chooser, rule)
                self.assertEqual(gap is None, is_best)
                self.assertEqual(rule_gap(chooser=chooser, rule=list(rule)), gap)
                if gap is not None:
                    self.assertIs(type(gap), Frac)
                    self.assertGreaterEqual(gap.num, 0)
                    self.assertTrue(game_worth(project, 0, gap).is_below(best_game(chooser, 0, gap)))
                elif enough is None:
                    enough = rule
            self.assertEqual(enough_rule(chooser=chooser), enough)
            counts[enough is None] += 1
        self.assertGreater(min(counts.values()), 1)

    def test_known_ones(self):
        self.assertEqual([enough_rule(PLAIN), enough_rule(SPLIT)], [(1, 0, 0), None])
        self.assertIsNone(rule_gap(PLAIN, (1, 0, 0)))
        self.assertEqual(enough_rule(Chooser([("end", 1)])), (0,))
        # Both options are the same: the first rule is enough.
        self.assertEqual(enough_rule(Chooser([("choose", [TO_1, TO_1]), ("end", 1)])), (0, 0))
        # All that matters lies below the price 0.
        self.assertEqual(enough_rule(Chooser([("choose", [(1, [(1, 1)]), TO_1]), ("end", -3)])), (0, 0))
        # Only the game from state 0 counts.
        self.assertEqual(enough_rule(Chooser([("end", 1), ("choose", [(1, [(1, 0)]), TO_0])])), (0, 0))
        self.assert_tuples(enough_rule(PLAIN))

    def test_enough_in_every_house(self):
        chance = random.Random(76)
        for chooser in some_choosers(40, 77):
            rule = enough_rule(chooser)
            if rule is not None:
                house = good_house(chance)
                rest = list(house.projects[1:])
                worth = best_worth(House([chooser.under(rule), *rest], house.family))
                for other in chooser.rules():
                    self.assertFalse(worth.is_below(best_worth(House([chooser.under(other), *rest], house.family))))

    def test_no_rule_is_enough(self):
        tried = 0
        for chooser in some_choosers(60, 78):
            if enough_rule(chooser) is not None:
                continue
            for rule in chooser.rules():
                gap = rule_gap(chooser, rule)
                if gap.num > 9999 or gap.den > 99:
                    continue
                worths = [best_worth(House([chooser.under(one), Project.sure(gap)], uniform(2, 1))) for one in (rule, *chooser.rules())]
                most = max(fraction(worth) for worth in worths)
                self.assertEqual(fraction(gap + best_game(chooser, 0, gap)), most)
                self.assertEqual(worths[0], gap + game_worth(chooser.under(rule), 0, gap))
                self.assertLess(fraction(worths[0]), most)
                tried += 1
        self.assertGreater(tried, 5)


class Basics(Checks):
    def test_equal_calls(self):
        one, other = Chooser(SPLIT_ROWS), Chooser(deep_tuple(SPLIT_ROWS))
        for rule in one.rules():
            self.assertEqual(one.under(rule), other.under(rule))
            self.assertEqual(rule_gap(one, rule), rule_gap(other, rule))
            rule = list(rule)
            rule_gap(one, rule)
            one.under(rule)
            self.assertEqual(tuple(rule), deep_tuple(rule))
        self.assertEqual(one.rows, SPLIT.rows)
