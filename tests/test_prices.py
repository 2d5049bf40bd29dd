import copy
import unittest
from fractions import Fraction

from greatestnext import prices
from greatestnext.errors import InvalidCertificate, InvalidFraction
from greatestnext.fracs import Frac, total
from greatestnext.prices import fair_price, fair_prices, game_worth, least_prices, price_certificate, price_of
from greatestnext.projects import Project
from tests.checks import Checks, both_kinds, deep_list
from tests.interface import check_interface
from tests.reckon import best_games, best_ratios, ends_of, frac, fraction, least_shares
from tests.samples import BOX, CHAIN, DEAR, FREE, FULL, LOST, NAMED, ODD_VALUES, RING, RISKY, TRIES, VAIN, some_projects

SOME = [*NAMED, *some_projects(60)]
SMALL = [project for project in SOME if len(project) <= 5 or project is RING]
TINY = Fraction(1, 10 ** 9)
HUGE = 10 ** 399


def as_fractions(values):
    return [None if value is None else fraction(value) for value in values]


def reached(project, state):
    found = [state]
    for at in found:
        if project.kind(at) == "step":
            found.extend(goal for _, goal in project.rows[at][2] if goal not in found)
    return found


class Interface(unittest.TestCase):
    def test_defined_here(self):
        check_interface(self, prices, {
            "game_worth": ["project", "state", "price"], "fair_price": ["project", "state"], "fair_prices": ["project"],
            "least_prices": ["project", "state"], "price_certificate": ["project", "state"],
            "price_of": ["project", "state", "certificate"],
        })


class Games(Checks):
    def test_against_all_ways(self):
        for project in SMALL:
            fairs = [fair for fair in as_fractions(fair_prices(project)) if fair is not None]
            for price in {Fraction(-31), Fraction(0), Fraction(17, 3), *fairs, *[fair - TINY for fair in fairs]}:
                wanted = best_games(project, price)
                found = [fraction(game_worth(project, state, frac(price))) for state in range(len(project))]
                self.assertEqual(found, wanted, (project.rows, price))

    def test_known_ones(self):
        self.assertEqual(game_worth(BOX, 0, 0), Frac(4))
        self.assertEqual(game_worth(BOX, 0, 8), Frac(0))
        self.assertEqual(game_worth(BOX, 0, Frac(7)), Frac(1, 2))
        self.assertEqual(game_worth(BOX, 0, -2), Frac(6))
        self.assertEqual(game_worth(BOX, 2, 4), Frac(6))
        self.assertEqual(game_worth(TRIES, 0, 0), Frac(8))
        self.assertEqual(game_worth(LOST, 0, -HUGE), Frac(0))
        self.assertEqual(game_worth(RISKY, 2, -5), Frac(0))
        self.assertEqual(game_worth(Project.sure(-3), 0, -5), Frac(2))
        self.assertEqual(game_worth(Project.sure(-3), 0, 0), Frac(0))

    def test_integers_and_fractions(self):
        for project in NAMED:
            for price in (-3, 0, 2):
                self.assertEqual(game_worth(project, 0, price), game_worth(project, 0, Frac(price)))
        self.assertEqual(game_worth(project=BOX, state=0, price=0), Frac(4))
        for price in (None, True, "1", (1, 2)):
            self.error_of(InvalidFraction, game_worth, BOX, 0, price)

    def test_prices_of_hundreds_of_digits(self):
        price = Frac(1 - HUGE, HUGE // 10 - 3)
        self.assertEqual(game_worth(BOX, 1, price), Frac(0) - price)
        self.assertEqual(fraction(game_worth(RING, 0, price)), best_games(RING, fraction(price))[0])
        for project in NAMED:
            self.assertEqual(game_worth(project, 0, HUGE), Frac(0))
            worth = game_worth(project, 0, -HUGE)
            self.assertEqual(worth.num > 0, fair_price(project, 0) is not None)

    def test_never_below_0(self):
        for project in SOME:
            for state in range(len(project)):
                for price in (-4, 0, 3, Frac(50, 3)):
                    self.assertGreaterEqual(game_worth(project, state, price).num, 0)


class Fair(Checks):
    def test_known_ones(self):
        self.assertEqual([fair_price(BOX, 0), fair_price(TRIES, 0)], [Frac(8), Frac(8)])
        self.assertEqual(fair_prices(RISKY), (Frac(8), Frac(10), None))
        self.assertEqual(fair_prices(VAIN), (Frac(8), Frac(10), None, None))
        self.assertEqual(fair_prices(LOST), (None, None, None, Frac(5)))
        self.assertEqual(fair_prices(FREE), (Frac(5, 3), Frac(5, 3), Frac(5, 3)))
        self.assertEqual(fair_prices(DEAR), (Frac(-11), Frac(-4), Frac(-1), Frac(0)))
        self.assertEqual(fair_price(project=BOX, state=1), Frac(0))

    def test_none_exactly_without_an_end(self):
        for project in SOME:
            for state in range(len(project)):
                some_end = any(project.kind(at) == "end" for at in reached(project, state))
                self.assertEqual(fair_price(project, state) is not None, some_end)

    def test_worth_at_an_end(self):
        for project in SOME:
            for state in ends_of(project):
                self.assertEqual(fair_price(project, state), project.worth(state))

    def test_least_price_without_a_gain(self):
        for project in SOME:
            for state, fair in enumerate(as_fractions(fair_prices(project))):
                if fair is None:
                    continue
                for above in (0, TINY, 1, HUGE):
                    self.assertEqual(game_worth(project, state, frac(fair + above)), Frac(0))
                self.assertGreater(game_worth(project, state, frac(fair - TINY)).num, 0)

    def test_against_all_ratios(self):
        for project in SMALL:
            if len(ends_of(project)) <= 3:
                self.assertEqual(as_fractions(fair_prices(project)), best_ratios(project), project.rows)

    def test_all_states(self):
        for project in SOME:
            found = fair_prices(project)
            self.assertIs(type(found), tuple)
            self.assertEqual(found, tuple(fair_price(project, state) for state in range(len(project))))
            self.assertTrue(all(price is None or type(price) is Frac for price in found))

    def test_another_numbering(self):
        for project in SOME:
            last = len(project) - 1
            rows = []
            for row in project.rows[::-1]:
                if row[0] == "step":
                    row = ("step", row[1], [(weight, last - goal) for weight, goal in row[2]][::-1])
                rows.append(row)
            self.assertEqual(fair_prices(Project(rows)), fair_prices(project)[::-1])

    def test_weights_multiplied(self):
        for project in SOME:
            rows = [
                ("step", row[1], [(weight * 31, goal) for weight, goal in row[2]]) if row[0] == "step" else row
                for row in project.rows
            ]
            self.assertEqual(fair_prices(Project(rows)), fair_prices(project))
            self.assertEqual(least_prices(Project(rows), 0), least_prices(project, 0))

    def test_worths_shifted(self):
        shift = Frac(-13, 3)
        for project in SOME:
            rows = [("end", row[1] + shift) if row[0] == "end" else row for row in project.rows]
            wanted = tuple(None if fair is None else fair + shift for fair in fair_prices(project))
            self.assertEqual(fair_prices(Project(rows)), wanted)


class Least(Checks):
    def test_known_ones(self):
        self.assertEqual(least_prices(BOX, 0), ((Frac(8), Frac(1, 2)), (Frac(0), Frac(1, 2))))
        self.assertEqual(least_prices(RISKY, 0), ((Frac(8), Frac(1, 2)), (None, Frac(1, 2))))
        self.assertEqual(least_prices(RISKY, 2), ((None, Frac(1)),))
        self.assertEqual(least_prices(RISKY, 1), ((Frac(10), Frac(1)),))
        self.assertEqual(least_prices(TRIES, 0), ((Frac(8), Frac(1)),))
        self.assertEqual(least_prices(LOST, 0), ((None, Frac(1)),))
        self.assertEqual(least_prices(project=DEAR, state=0), ((Frac(-11), Frac(1)),))

    def test_equal_prices_are_joined(self):
        project = Project.box(0, [(1, 4), (1, 4), (2, 0)])
        self.assertEqual(least_prices(project, 0), ((Frac(4), Frac(1, 2)), (Frac(0), Frac(1, 2))))

    def test_form(self):
        for project in SOME:
            for state in range(len(project)):
                pairs = least_prices(project, state)
                self.assert_tuples(pairs)
                found = [price for price, _ in pairs]
                self.assertNotIn(None, found[:-1])
                named = [fraction(price) for price in found if price is not None]
                self.assertEqual(named, sorted(set(named), reverse=True))
                self.assertTrue(all(type(share) is Frac and share.num > 0 for _, share in pairs))
                self.assertEqual(total([share for _, share in pairs]), Frac(1))

    def test_against_runs(self):
        for project in SOME:
            fairs = as_fractions(fair_prices(project))
            for state in range(len(project)):
                found = {None if price is None else fraction(price): fraction(share) for price, share in least_prices(project, state)}
                self.assertEqual(found, least_shares(project, state, fairs))

    def test_games_are_sums_over_least_prices(self):
        for project in SOME:
            for state in range(len(project)):
                pairs = least_prices(project, state)
                for price in (-9, 0, Frac(7, 3), 8, *[price for price, _ in pairs if price is not None]):
                    at = price if isinstance(price, Frac) else Frac(price)
                    gains = [share * (least - at) for least, share in pairs if least is not None and at.is_below(least)]
                    self.assertEqual(game_worth(project, state, price), total(gains))


class Certificates(Checks):
    def assert_refused(self, project, state, certificate):
        before = copy.deepcopy(certificate)
        error = self.error_of(InvalidCertificate, price_of, project, state, certificate)
        self.assertIs(error.value, certificate)
        self.assertEqual(certificate, before)

    def check(self, project, state, certificate):
        """Check each condition of the point by an own reckoning."""
        if certificate[0] == "none":
            closed = certificate[1]
            self.assertEqual(sorted(set(closed)), list(closed))
            self.assertTrue(all(type(at) is int for at in closed))
            self.assertIn(state, closed)
            self.assertFalse([at for at in closed if project.kind(at) == "end"])
            self.assertTrue(all(set(reached(project, at)) <= set(closed) for at in closed))
            return
        word, price, go, means, chances, heights = certificate
        self.assertEqual(word, "price")
        self.assertEqual(sorted(set(go)), list(go))
        self.assertTrue(all(type(at) is int for at in go))
        self.assertIn(state, go)
        self.assertEqual([len(means), len(chances), len(heights)], [len(go), len(go), len(project)])
        mean = dict(zip(go, as_fractions(means)))
        chance = dict(zip(go, as_fractions(chances)))
        height = as_fractions(heights)
        price = fraction(price)
        for at in range(len(project)):
            if project.kind(at) == "end":
                self.assertGreaterEqual(height[at], fraction(project.worth(at)) - price)
            if project.kind(at) == "step":
                shares = [(fraction(share), goal) for share, goal in project.shares(at)]
                cost = fraction(project.cost(at))
                self.assertGreaterEqual(height[at], sum(share * height[goal] for share, goal in shares) - cost)
            self.assertGreaterEqual(height[at], 0)
            if at in go and project.kind(at) == "end":
                self.assertEqual([mean[at], chance[at]], [fraction(project.worth(at)), 1])
            elif at in go:
                self.assertEqual(project.kind(at), "step")
                self.assertEqual(mean[at], sum(share * mean.get(goal, 0) for share, goal in shares) - cost)
                self.assertEqual(chance[at], sum(share * chance.get(goal, 0) for share, goal in shares))
        self.assertGreater(chance[state], 0)
        self.assertEqual(mean[state], price * chance[state])
        self.assertEqual(height[state], 0)

    def test_each_is_right(self):
        for project in SOME:
            for state in range(len(project)):
                certificate = price_certificate(project, state)
                self.assert_tuples(certificate)
                self.check(project, state, certificate)
                for passed in both_kinds(certificate):
                    self.assertEqual(price_of(project, state, passed), fair_price(project, state))
        self.assertEqual(price_of(project=BOX, state=0, certificate=price_certificate(project=BOX, state=0)), Frac(8))

    def test_price_is_a_fraction(self):
        self.assertIs(type(price_of(BOX, 0, price_certificate(BOX, 0))), Frac)
        self.assertIsNone(price_of(RISKY, 2, ("none", (2,))))

    def test_other_right_ones(self):
        # A wider closed set, states in go that are not needed, and heights above the least ones.
        self.assertIsNone(price_of(LOST, 2, ["none", [1, 2]]))
        self.assertIsNone(price_of(LOST, 1, ("none", (0, 1, 2))))
        go = ("price", Frac(8), (0, 1, 2), (Frac(4), Frac(0), Frac(10)), (Frac(1), Frac(1), Frac(1)), (Frac(0), Frac(0), Frac(2)))
        # Taking the 0, too, is not worth its while at the price 8.
        self.assert_refused(BOX, 0, go)
        wide = ("price", Frac(6), (0, 1), (Frac(6), Frac(5)), (Frac(1), Frac(1)), (Frac(0), Frac(0), Frac(0)))
        wider = ("price", Frac(6), (0, 1), (Frac(6), Frac(5)), (Frac(1), Frac(1)), (Frac(0), Frac(7), Frac(9, 2)))
        project = Project([("end", 6), ("end", 5), ("void",)])
        for certificate in (wide, wider):
            for passed in both_kinds(certificate):
                self.assertEqual(price_of(project, 0, passed), Frac(6))

    def test_no_certificates_at_all(self):
        for project, state in ((BOX, 0), (RISKY, 2), (LOST, 0), (Project.sure(0), 0)):
            for value in ODD_VALUES:
                self.assert_refused(project, state, value)
                self.assert_refused(project, state, ["none", value])
                self.assert_refused(project, state, [value, (state,), ()])
                self.assert_refused(project, state, ("price", value))
            for word in ("none", "price"):
                self.assert_refused(project, state, (word,))
                self.assert_refused(project, state, [word, (state,), (), (), ()])

    def test_closed_sets(self):
        self.assertIsNone(price_of(VAIN, 2, ("none", (2, 3))))
        wrong = (
            (), (2,), (3,), (3, 2), (2, 2, 3), (2, 3, 3), (1, 2, 3), (0, 1, 2, 3), (2, 3, 4), (-1, 2, 3), (True, 2, 3), ("2", 3),
            (2, 3, None), "23", None, 2, {2: 3},
        )
        for closed in wrong:
            self.assert_refused(VAIN, 2, ("none", closed))
            self.assert_refused(VAIN, 2, ["none", closed])
        self.assert_refused(VAIN, 2, ("none", (2, 3), ()))
        self.assert_refused(VAIN, 2, ("price", (2, 3)))
        self.assert_refused(LOST, 1, ("none", (True, 2)))
        self.assert_refused(LOST, 1, ("none", (1,)))
        self.assert_refused(LOST, 0, ("none", (0, 2)))
        self.assert_refused(VAIN, 2, price_certificate(VAIN, 0))
        self.assert_refused(VAIN, 0, price_certificate(VAIN, 2))

    def test_each_place_changed(self):
        for project in (BOX, TRIES, RISKY, RING, CHAIN, FREE, DEAR, FULL, Project.sure(0)):
            certificate = price_certificate(project, 0)
            for part in range(6):
                for value in ODD_VALUES:
                    changed = list(certificate)
                    changed[part] = value
                    self.assert_changed(project, certificate, changed)
            for part in (2, 3, 4, 5):
                for at in range(len(certificate[part])):
                    for value in (*ODD_VALUES, Frac(-1), Frac(10 ** 9), 2, 3):
                        changed = deep_list(certificate)
                        changed[part][at] = value
                        self.assert_changed(project, certificate, changed)

    def assert_changed(self, project, certificate, changed):
        """Check that the change is refused, or if it is right that it has the same price."""
        try:
            self.check(project, 0, changed)
        except (AssertionError, TypeError, KeyError, IndexError, ValueError):
            self.assert_refused(project, 0, changed)
        else:
            self.assertEqual(price_of(project, 0, changed), certificate[1])

    def test_integers_are_no_fractions_here(self):
        right = ("price", Frac(6), (0,), (Frac(6),), (Frac(1),), (Frac(0),))
        self.assertEqual(price_of(Project.sure(6), 0, right), Frac(6))
        for at, value in ((1, 6), (2, (False,)), (3, (6,)), (4, (1,)), (5, (0,)), (4, (True,)), (0, "prices"), (0, None)):
            self.assert_refused(Project.sure(6), 0, right[:at] + (value,) + right[at + 1:])
        self.assert_refused(Project.sure(6), 0, right + ((),))
        self.assert_refused(Project.sure(6), 0, right[:5])

    def test_each_condition_alone(self):
        zero, one = Frac(0), Frac(1)
        sure = Project.sure(6)
        # At another price than the mean per chance, at heights below worth less price, and at a height above 0.
        self.assert_refused(sure, 0, ("price", Frac(7), (0,), (Frac(6),), (one,), (zero,)))
        self.assert_refused(sure, 0, ("price", Frac(5), (0,), (Frac(5),), (one,), (zero,)))
        self.assert_refused(sure, 0, ("price", Frac(6), (0,), (Frac(6),), (one,), (one,)))
        self.assert_refused(sure, 0, ("price", Frac(6), (), (), (), (zero,)))
        self.assert_refused(sure, 0, ("price", Frac(6), (0,), (Frac(12),), (Frac(2),), (zero,)))
        # Going nowhere has chance 0 and mean 0: every price would be right.
        still = Project([("step", 0, [(1, 1)]), ("end", 4)])
        heights = (zero, zero)
        self.assertEqual(price_of(still, 0, ("price", Frac(4), (0, 1), (Frac(4),) * 2, (one, one), heights)), Frac(4))
        self.assert_refused(still, 0, ("price", Frac(9), (0,), (zero,), (zero,), heights))
        # A void in go, a height below the goals' mean, and one below 0.
        risky = ("price", Frac(8), (0, 1), (Frac(4), Frac(10)), (Frac(1, 2), one), (zero, Frac(2), zero))
        self.assertEqual(price_of(RISKY, 0, risky), Frac(8))
        void = ("price", Frac(8), (0, 1, 2), (Frac(4), Frac(10), zero), (Frac(1, 2), one, zero), (zero, Frac(2), zero))
        self.assert_refused(RISKY, 0, void)
        self.assert_refused(RISKY, 0, risky[:5] + ((zero, Frac(2), Frac(-1)),))
        self.assert_refused(RISKY, 0, risky[:5] + ((zero, Frac(3), zero),))
        self.assertEqual(price_of(RISKY, 0, risky[:5] + ((zero, Frac(2), Frac(0)),)), Frac(8))
        # A goal that is left out counts 0, so that the ratio is only 4: the heights give it away.
        less = Project.box(0, [(1, 4), (1, 10)])
        small = ("price", Frac(4), (0, 1), (Frac(2), Frac(4)), (Frac(1, 2), one), (zero, zero, Frac(6)))
        self.assert_refused(less, 0, small)
        right = ("price", Frac(10), (0, 2), (Frac(5), Frac(10)), (Frac(1, 2), one), (zero, zero, zero))
        self.assertEqual(price_of(less, 0, right), Frac(10))
        # A height above the least one is right only as long as the states that lead to it are high enough, too.
        self.assertEqual(price_of(BOX, 1, ("price", zero, (1,), (zero,), (one,), (Frac(4), zero, Frac(10)))), zero)
        self.assert_refused(BOX, 1, ("price", zero, (1,), (zero,), (one,), (Frac(4), zero, Frac(11))))
        self.assertEqual(price_of(BOX, 1, ("price", zero, (1,), (zero,), (one,), (Frac(5), zero, Frac(11)))), zero)


class Basics(Checks):
    def test_nothing_changes_and_equal_calls_agree(self):
        for project in NAMED:
            rows = project.rows
            before = copy.deepcopy(rows)
            other = Project(deep_list(rows))
            self.assertEqual(price_certificate(project, 0), price_certificate(other, 0))
            self.assertEqual(least_prices(project, 0), least_prices(other, 0))
            self.assertIs(project.rows, rows)
            self.assertEqual(rows, before)
