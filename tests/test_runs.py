import random
import unittest

from greatestnext import runs
from greatestnext.families import from_tops, uniform
from greatestnext.fracs import Frac
from greatestnext.houses import House, first_standing, gain, outcomes
from greatestnext.projects import Project
from greatestnext.runs import run
from greatestnext.worths import next_deed
from tests.checks import Checks
from tests.interface import check_interface
from tests.samples import BOX, RISKY, TRIES, bad_house, good_house

HOUSE = House([BOX, BOX, Project.sure(6)], uniform(3, 1))
THREE = Project([("step", 2, [(2, 1), (3, 2), (5, 3)]), ("end", 20), ("end", 30), ("end", 40)])
FAR = 10 ** 45 + 7


def own_run(house, draws):
    """Return the triple by the words of the document, one deed after the other."""
    standing, steps, earned, left = first_standing(house), [], Frac(0), list(draws)
    while True:
        deed = next_deed(house, standing)
        if deed == ("stop",):
            return (tuple(steps), True, earned)
        if deed[0] == "work" and not left:
            return (tuple(steps), False, earned)
        earned = earned + gain(house, standing, deed)
        after = outcomes(house, standing, deed)
        at = 0
        if deed[0] == "work":
            goals = house.projects[deed[1]].rows[standing[1][deed[1]]][2]
            line = [place for place, (weight, _) in enumerate(goals) for _ in range(weight)]
            at = line[left.pop(0) % len(line)]
        standing = after[at][1]
        steps.append((deed, standing))


class Interface(unittest.TestCase):
    def test_defined_here(self):
        check_interface(self, runs, {"run": ["house", "draws"]})


class Runs(Checks):
    def assert_run(self, house, draws, steps, ended, earned):
        for passed in (list(draws), tuple(draws)):
            found = run(house=house, draws=passed)
            self.assert_tuples(found)
            self.assertEqual(found[0], tuple(steps))
            self.assertIs(found[1], ended)
            self.assertIs(type(found[2]), Frac)
            self.assertEqual(found[2].text(), earned)
            self.assertEqual(list(passed), list(draws))

    def test_no_draws(self):
        self.assert_run(HOUSE, [], [], False, "0")
        self.assert_run(House([Project.sure(3), Project.sure(-1)], uniform(2, 2)), [], [(("take", 0), ((0,), (0, 0)))], True, "3")
        self.assert_run(House([Project([("void",)])], uniform(1, 1)), [], [], True, "0")
        self.assert_run(House([Project.sure(9), BOX], uniform(2, 2)), [], [(("take", 0), ((0,), (0, 0)))], False, "9")

    def test_as_many_as_are_used(self):
        first, second, third = (
            (("work", 0), ((), (1, 0, 0))), (("work", 1), ((), (1, 1, 0))), (("take", 2), ((2,), (1, 1, 0))),
        )
        self.assert_run(HOUSE, [0], [first], False, "-1")
        self.assert_run(HOUSE, [0, 0], [first, second, third], True, "4")
        self.assert_run(HOUSE, [0, 0, 0], [first, second, third], True, "4")
        self.assert_run(HOUSE, [1], [(("work", 0), ((), (2, 0, 0))), (("take", 0), ((0,), (2, 0, 0)))], True, "9")
        self.assert_run(HOUSE, [1, 5, 6], [(("work", 0), ((), (2, 0, 0))), (("take", 0), ((0,), (2, 0, 0)))], True, "9")

    def test_edges_of_the_goals(self):
        house = House([THREE], uniform(1, 1))
        for draw, goal in ((0, 1), (1, 1), (2, 2), (4, 2), (5, 3), (9, 3), (10, 1), (11, 1), (12, 2), (14, 2), (15, 3), (19, 3), (20, 1)):
            for more in (0, 10, 10 ** 45):
                found = run(house, [draw + more])
                self.assertEqual(found[0][0], (("work", 0), ((), (goal,))))
                self.assertEqual(found[2], Frac(10 * goal + 8))
        # 10 ** 45 + 7 lies on the last goal, 10 ** 45 + 7 + 4 on the first one.
        self.assertEqual([run(house, [FAR])[2].text(), run(house, [FAR + 4])[2].text()], ["38", "18"])

    def test_loops(self):
        house = House([TRIES, RISKY], uniform(2, 2))
        found = run(house, [0] * 58 + [1, 1])
        self.assertEqual(len(found[0]), 61)
        self.assertEqual([found[1], found[2].text()], [True, "-50"])
        self.assertEqual(run(house, [0] * 60), (found[0][:58] + ((("work", 0), ((), (0, 0))),) * 2, False, Frac(-60)))

    def test_against_the_words(self):
        chance = random.Random(81)
        ended = [0, 0]
        for at in range(240):
            house = good_house(chance) if at % 2 else bad_house(chance)
            draws = [chance.choice([0, 1, 2, 5, chance.randint(0, 40), FAR]) for _ in range(chance.randint(0, 6))]
            wanted = own_run(house, draws)
            self.assertEqual(run(house, draws), wanted)
            ended[wanted[1]] += 1
        self.assertGreater(min(ended), 10)

    def test_equal_calls(self):
        draws = [1, 0]
        found = run(HOUSE, draws)
        draws[0] = 0
        other = House([Project(BOX.rows), Project(BOX.rows), Project.sure(Frac(6))], from_tops(3, [(0,), (1,), (2,)]))
        self.assertEqual(run(other, (1, 0)), found)
        self.assertEqual(found[0][0][1], ((), (2, 0, 0)))
