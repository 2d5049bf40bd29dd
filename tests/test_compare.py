import unittest

from greatestnext import compare
from greatestnext.compare import same_value, worse_at
from greatestnext.fracs import Frac
from greatestnext.prices import game_worth, least_prices
from greatestnext.projects import Project
from tests.interface import check_interface
from tests.reckon import best_games, frac, fraction
from tests.samples import BOX, DEAR, LOST, NAMED, RISKY, TRIES, some_projects

VOID = Project([("void",)])
SOME = [*NAMED, *some_projects(25, most=4, seed=5)]


def named_prices(*projects):
    """Return 0 and the prices above 0 that the least prices name, ascending."""
    named = {fraction(price) for project in projects for price, _ in least_prices(project, 0) if price is not None}
    return sorted({price for price in named if price > 0} | {0})


class Interface(unittest.TestCase):
    def test_defined_here(self):
        check_interface(self, compare, {"worse_at": ["project", "other"], "same_value": ["project", "other"]})


class Worse(unittest.TestCase):
    def test_known_ones(self):
        self.assertEqual(worse_at(Project.sure(6), BOX), Frac(6))
        self.assertEqual(worse_at(BOX, Project.sure(6)), Frac(0))
        self.assertEqual(worse_at(Project.sure(5), Project.sure(6)), Frac(0))
        self.assertIsNone(worse_at(project=Project.sure(6), other=Project.sure(5)))
        self.assertIs(type(worse_at(VOID, BOX)), Frac)
        self.assertEqual(worse_at(VOID, BOX), Frac(0))
        self.assertIsNone(worse_at(BOX, VOID))

    def test_prices_up_to_0_do_not_count(self):
        for project in (VOID, LOST, DEAR, Project.sure(0), Project.sure(-5)):
            for other in (VOID, LOST, DEAR, Project.sure(0), Project.sure(-5)):
                self.assertIsNone(worse_at(project, other))
                self.assertIs(same_value(project, other), True)

    def test_only_behind_a_price(self):
        # Both are worth 5 at 0; the game of the second one is worth more from the first price above 0 on.
        even = Project.box(0, [(1, 4), (1, 6)])
        wide = Project.box(0, [(1, 0), (1, 10)])
        self.assertEqual(worse_at(even, wide), Frac(4))
        self.assertIsNone(worse_at(wide, even))
        even = Project.box(0, [(1, 1), (1, 3)])
        wide = Project.box(0, [(1, 0), (1, 4)])
        self.assertEqual(worse_at(even, wide), Frac(1))

    def test_seldom_but_much(self):
        much = Project.box(0, [(9, 0), (1, 100)])
        self.assertIsNone(worse_at(much, Project.box(0, [(99, 9), (1, 5)])))

    def test_against_all_ways(self):
        for project in SOME[:24]:
            for other in SOME[:24]:
                if max(len(project), len(other)) > 5:
                    continue
                worse = [
                    price for price in named_prices(project, other)
                    if best_games(project, price)[0] < best_games(other, price)[0]
                ]
                self.assertEqual(worse_at(project, other), frac(worse[0]) if worse else None)

    def test_never_worse_between_the_prices(self):
        for project in SOME:
            for other in SOME[::3]:
                found = worse_at(project, other)
                for price in [*named_prices(project, other), 1, 2, 5]:
                    worse = game_worth(project, 0, frac(price)).is_below(game_worth(other, 0, frac(price)))
                    self.assertFalse(worse and found is None)


class Same(unittest.TestCase):
    def test_itself(self):
        for project in SOME:
            self.assertIsNone(worse_at(project, project))
            self.assertIs(same_value(project, Project(project.rows)), True)

    def test_same_pairs_above_0(self):
        def above(project):
            return [pair for pair in least_prices(project, 0) if pair[0] is not None and pair[0].num > 0]

        for project in SOME:
            for other in SOME:
                self.assertIs(same_value(project, other), above(project) == above(other))

    def test_known_ones(self):
        self.assertIs(same_value(project=TRIES, other=Project.sure(8)), True)
        self.assertIs(same_value(Project.sure(8), TRIES), True)
        self.assertIs(same_value(RISKY, Project([("step", 0, [(1, 1), (1, 2)]), ("end", 8), ("end", -1)])), True)
        self.assertIs(same_value(RISKY, TRIES), False)
        self.assertIs(same_value(TRIES, RISKY), False)
