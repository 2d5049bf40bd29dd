import copy
import random
import unittest
from fractions import Fraction

from greatestnext import houses
from greatestnext.errors import InvalidDeed, InvalidStanding, WrongSize
from greatestnext.families import Family, from_tops, uniform
from greatestnext.fracs import Frac
from greatestnext.houses import House, deeds, first_standing, gain, outcomes
from greatestnext.projects import Project
from tests.checks import Checks, both_kinds, deep_list
from tests.interface import check_interface
from tests.reckon import fraction
from tests.samples import BOX, ODD_VALUES, RISKY, TRIES, all_standings, random_house

FAMILY = from_tops(3, [(0, 1), (2,)])
HOUSE = House([BOX, TRIES, RISKY], FAMILY)


def possible(house, standing):
    """Return the deeds that can be done, by the words of the point."""
    taken, states = standing
    found = [("stop",)]
    for thing, project in enumerate(house.projects):
        row = project.rows[states[thing]]
        if thing not in taken and row[0] == "step":
            found.append(("work", thing))
        if thing not in taken and row[0] == "end" and tuple(sorted([*taken, thing])) in house.family.sets:
            found.append(("take", thing))
    return tuple(found)


class Interface(unittest.TestCase):
    def test_defined_here(self):
        check_interface(self, houses, {
            "House": ["projects", "family"], "first_standing": ["house"], "deeds": ["house", "standing"],
            "outcomes": ["house", "standing", "deed"], "gain": ["house", "standing", "deed"],
        })
        self.assertIn("__init__", vars(House))


class Making(Checks):
    def test_lists_and_tuples(self):
        projects = [BOX, TRIES, RISKY]
        for passed in (projects, tuple(projects)):
            house = House(projects=passed, family=FAMILY)
            self.assertIs(type(house.projects), tuple)
            self.assertEqual(house.projects, (BOX, TRIES, RISKY))
            self.assertEqual(house.family, FAMILY)

    def test_later_changes_have_no_effect(self):
        projects = [BOX, TRIES, RISKY]
        house = House(projects, FAMILY)
        projects[0] = RISKY
        projects.append(BOX)
        self.assertEqual(house.projects, (BOX, TRIES, RISKY))

    def test_wrong_size(self):
        for many in (0, 1, 2, 4, 5, 7):
            for passed in ([BOX] * many, (BOX,) * many):
                self.assert_keeps(self.error_of(WrongSize, House, passed, FAMILY), "many", many)


class Standings(Checks):
    def test_first_standing(self):
        self.assertEqual(first_standing(HOUSE), ((), (0, 0, 0)))
        self.assertEqual(first_standing(house=House([BOX], uniform(1, 0))), ((), (0,)))
        self.assert_tuples(first_standing(HOUSE))

    def test_all_deeds(self):
        chance = random.Random(12)
        some = [HOUSE, *[random_house(chance) for _ in range(30)]]
        for house in some:
            for standing in all_standings(house):
                wanted = possible(house, standing)
                for passed in both_kinds(standing):
                    self.assertEqual(deeds(house, passed), wanted)
                self.assert_tuples(deeds(house=house, standing=standing))
                for deed in wanted:
                    self.check_deed(house, standing, deed)

    def check_deed(self, house, standing, deed):
        taken, states = standing
        found = outcomes(house, standing, deed)
        self.assert_tuples(found)
        earned = fraction(gain(house, standing, deed))
        for passed in both_kinds(standing):
            for given in both_kinds(deed):
                self.assertEqual(outcomes(house=house, standing=passed, deed=given), found)
                self.assertEqual(fraction(gain(house=house, standing=passed, deed=given)), earned)
        if deed == ("stop",):
            self.assertEqual([found, earned], [(), 0])
            return
        word, thing = deed
        project = house.projects[thing]
        row = project.rows[states[thing]]
        if word == "take":
            self.assertEqual(found, ((Frac(1), (tuple(sorted([*taken, thing])), states)),))
            self.assertEqual(earned, fraction(row[1]))
            return
        weights = sum(weight for weight, _ in row[2])
        wanted = []
        for weight, goal in row[2]:
            after = tuple(goal if at == thing else state for at, state in enumerate(states))
            wanted.append((Fraction(weight, weights), (taken, after)))
        self.assertEqual([(fraction(share), after) for share, after in found], sorted(wanted, key=lambda pair: pair[1]))
        self.assertEqual(earned, -fraction(row[1]))

    def test_known_ones(self):
        self.assertEqual(deeds(HOUSE, ((), (0, 0, 0))), (("stop",), ("work", 0), ("work", 1), ("work", 2)))
        self.assertEqual(deeds(HOUSE, ((), (1, 1, 2))), (("stop",), ("take", 0), ("take", 1)))
        half = Frac(1, 2)
        self.assertEqual(outcomes(HOUSE, ((), (0, 0, 0)), ("work", 1)), ((half, ((), (0, 0, 0))), (half, ((), (0, 1, 0)))))
        self.assertEqual(gain(HOUSE, ((), (0, 0, 0)), ("work", 1)), Frac(-1))
        self.assertEqual(gain(HOUSE, ((), (2, 0, 0)), ("take", 0)), Frac(10))
        self.assertEqual(gain(HOUSE, ((), (2, 0, 0)), ("stop",)), Frac(0))

    def test_a_thing_that_cannot_be_added(self):
        # Thing 2 cannot be added to thing 0: it may be worked on, but not be taken. A taken thing may not be worked on.
        self.assertEqual(deeds(HOUSE, ((0,), (1, 0, 0))), (("stop",), ("work", 1), ("work", 2)))
        self.assertEqual(deeds(HOUSE, ((0,), (1, 1, 1))), (("stop",), ("take", 1)))
        self.assertEqual(deeds(HOUSE, ((0, 1), (0, 0, 0))), (("stop",), ("work", 2)))
        self.assertEqual(outcomes(HOUSE, ((0,), (1, 0, 0)), ("work", 2))[0], (Frac(1, 2), ((0,), (1, 0, 1))))
        self.error_of(InvalidDeed, gain, HOUSE, ((0,), (1, 1, 1)), ("take", 2))
        self.error_of(InvalidDeed, gain, HOUSE, ((0, 1), (0, 0, 0)), ("work", 0))


class Wrong(Checks):
    def calls(self):
        return (
            lambda standing: deeds(HOUSE, standing), lambda standing: outcomes(HOUSE, standing, ("stop",)),
            lambda standing: gain(HOUSE, standing, ("stop",)), lambda standing: outcomes(HOUSE, standing, "no deed"),
            lambda standing: gain(HOUSE, standing, None),
        )

    def assert_no_standing(self, standing):
        for call in self.calls():
            before = copy.deepcopy(standing)
            error = self.error_of(InvalidStanding, call, standing)
            self.assertIs(error.value, standing)
            self.assertEqual(standing, before)

    def test_no_standing_at_all(self):
        for value in ODD_VALUES:
            self.assert_no_standing(value)
            self.assert_no_standing((value, (0, 0, 0)) if value not in FAMILY else [value, (0, 0)])
            self.assert_no_standing([(), value])
            self.assert_no_standing(((), (0, 0, 0), value))
            for at in range(3):
                states = [0, 0, 0]
                states[at] = value
                if type(value) is not int or value not in (0, 1, 2):
                    self.assert_no_standing(((), states))
                    self.assert_no_standing([(), tuple(states)])

    def test_each_part_alone(self):
        wrong = (
            ((0, 2), (0, 0, 0)), ((1, 0), (0, 0, 0)), ((3,), (0, 0, 0)), ((0, 0), (0, 0, 0)), ((), (3, 0, 0)), ((), (0, 2, 0)),
            ((), (0, 0, 3)), ((), (0, 0, -1)), ((), (0, 0)), ((), (0, 0, 0, 0)), ((),), ((0, 0, 0),), ((), (0, 0, 0), ()),
            ((True,), (0, 0, 0)), ((), (True, 0, 0)), ((), (0, False, 0)), ((), "000"), ("", (0, 0, 0)), (None, (0, 0, 0)),
            ((), (Frac(0), 0, 0)), ((), ((0,), 0, 0)), [[], [0, 0, None]], {(): 0, (0, 0, 0): 1},
        )
        for standing in wrong:
            self.assert_no_standing(standing)
            self.assert_no_standing(deep_list(standing))

    def test_deeds_of_another_kind(self):
        right = [("stop",), ("work", 0), ("take", 1)]
        standing = ((), (0, 1, 0))
        wrong = [
            value for value in ODD_VALUES
        ] + [
            ("stop", 0), ("stop", None), ("work",), ("take",), ("work", 0, 0), ("take", 0), ("work", 1), ("work", 3), ("work", -1),
            ("work", True), ("work", False), ("take", True), ("take", "1"), ("take", None), ("take", Frac(1)), ("take", (1,)),
            ("work", [0]), ("Work", 0), (0, "work"), ("", 0), (None,), (["stop"],), ("take", 10 ** 399), "stop", ("work", ()), ("rest", 0),
            ("take", 2), [Frac(0), 0], [["work", 0]], {"stop": 0}, ("stop", "stop"),
        ]
        for deed in right:
            for passed in both_kinds(deed):
                gain(HOUSE, standing, passed)
        for deed in wrong:
            for passed in (deed, deep_list(deed)):
                before = copy.deepcopy(passed)
                for function in (outcomes, gain):
                    error = self.error_of(InvalidDeed, function, HOUSE, standing, passed)
                    self.assertIs(error.deed, passed)
                    self.assertEqual(passed, before)

    def test_deeds_that_cannot_be_done(self):
        words = [("stop",), *[(word, thing) for word in ("work", "take") for thing in range(3)]]
        for standing in all_standings(HOUSE):
            for deed in words:
                if deed not in possible(HOUSE, standing):
                    for function in (outcomes, gain):
                        self.assertEqual(self.error_of(InvalidDeed, function, HOUSE, deep_list(standing), deed).deed, deed)

    def test_voids(self):
        house = House([Project([("void",)]), Project.sure(-2)], Family(2, [(), (1,)]))
        self.assertEqual(deeds(house, ((), (0, 0))), (("stop",), ("take", 1)))
        self.assertEqual(gain(house, ((), (0, 0)), ("take", 1)), Frac(-2))


class Basics(Checks):
    def test_nothing_changes(self):
        standing, deed = [[], [0, 0, 0]], ["work", 0]
        found = outcomes(HOUSE, standing, deed)
        self.assertEqual([standing, deed], [[[], [0, 0, 0]], ["work", 0]])
        standing[1][0] = 2
        self.assertEqual(found, ((Frac(1, 2), ((), (1, 0, 0))), (Frac(1, 2), ((), (2, 0, 0)))))
        other = House((BOX, TRIES, RISKY), FAMILY)
        self.assertEqual(outcomes(other, ((), (0, 0, 0)), deed), found)
