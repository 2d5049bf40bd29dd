import copy
import random
import time
import unittest
from fractions import Fraction

from greatestnext import cheapest
from greatestnext.cheapest import cheapest_deed, cheapest_worth, dear_price
from greatestnext.errors import InvalidStanding, NoEnd, NoExchange
from greatestnext.families import beside, exchange_fault, forests, from_tops, uniform
from greatestnext.fracs import Frac
from greatestnext.houses import House, deeds, first_standing
from greatestnext.projects import Project
from tests.checks import Checks, both_kinds, deep_list
from tests.interface import check_interface
from tests.reckon import best_games, best_values, deed_value, drawn_shares, frac, fraction, lightest_weight, mean_of_draws
from tests.samples import (
    BAD, BOX, DEAR, FREE, GOOD, ODD_VALUES, RISKY, TRIES, VAIN, all_standings, good_house, project_with_ends,
)

OFFER = Project.box(1, [(1, 4), (1, 10)])
HOUSE = House([OFFER, Project.sure(7)], uniform(2, 1))
STOP = ("stop",)
HIDDEN = Project([("end", 3), ("void",)])


def turned_worths(project):
    """Return the project with the sign of each worth turned."""
    return Project([("end", Frac(0) - row[1]) if row[0] == "end" else row for row in project.rows])


def paid_house(house):
    return House([turned_worths(project) for project in house.projects], house.family)


def full_house(chance, most_things=3, most_states=3):
    """Return some house without voids whose family has the exchange property."""
    house = good_house(chance, most_things)
    return House([project_with_ends(chance, most_states) for _ in house.projects], house.family)


def greatest_shares(project, state):
    """Return the dict of greatest dear prices on a run and their shares."""
    return {-price: share for price, share in drawn_shares(turned_worths(project), state).items()}


class Interface(unittest.TestCase):
    def test_defined_here(self):
        check_interface(self, cheapest, {
            "dear_price": ["project", "state"], "cheapest_deed": ["house", "standing"], "cheapest_worth": ["house", "at"],
        })

    def test_at_by_name_only(self):
        with self.assertRaises(TypeError):
            cheapest_worth(HOUSE, first_standing(HOUSE))


class DearPrice(Checks):
    def test_known_ones(self):
        self.assertEqual(dear_price(OFFER, 0).text(), "6")
        self.assertEqual(dear_price(project=OFFER, state=2).text(), "10")
        self.assertEqual(dear_price(Project.sure(Frac(-7, 2)), 0).text(), "-7/2")
        self.assertEqual(dear_price(TRIES, 0).text(), "12")
        self.assertEqual(dear_price(FREE, 0).text(), "5/3")
        self.assertIs(type(dear_price(Project.sure(0), 0)), Frac)

    def test_against_games(self):
        chance = random.Random(61)
        some = [project_with_ends(chance, 5) for _ in range(60)]
        signs = set()
        for project in [*some, OFFER, BOX, TRIES, FREE, DEAR]:
            turned = turned_worths(project)
            for state in range(len(project)):
                price = fraction(dear_price(project, state))
                # The player of this game takes t for paying the worth.
                self.assertEqual(best_games(turned, -price)[state], 0)
                self.assertGreater(best_games(turned, -price - Fraction(1, 1000))[state], 0)
                signs.add((price > 0) - (price < 0))
                if project.kind(state) == "end":
                    self.assertEqual(price, fraction(project.worth(state)))
        self.assertEqual(signs, {-1, 0, 1})


class CheapestDeed(Checks):
    def wanted(self, house, standing):
        taken, states = standing
        found = []
        for thing, project in enumerate(house.projects):
            if thing not in taken and tuple(sorted([*taken, thing])) in house.family.sets:
                found.append((fraction(dear_price(project, states[thing])), thing))
        if not found:
            return STOP
        thing = min(found)[1]
        return ("take" if house.projects[thing].kind(states[thing]) == "end" else "work", thing)

    def test_all_standings(self):
        chance = random.Random(62)
        words = {}
        for house in [*[full_house(chance) for _ in range(12)], House([OFFER, OFFER, Project.sure(6)], uniform(3, 2))]:
            for standing in all_standings(house)[::2]:
                wanted = self.wanted(house, standing)
                for passed in both_kinds(standing):
                    self.assertEqual(cheapest_deed(house=house, standing=passed), wanted)
                self.assert_tuples(cheapest_deed(house, standing))
                self.assertIn(wanted, deeds(house, standing))
                self.assertEqual(wanted == STOP, standing[0] in house.family.full_sets())
                words[wanted[0]] = words.get(wanted[0], 0) + 1
        self.assertGreater(min(words[word] for word in ("stop", "take", "work")), 20)

    def test_known_ones(self):
        self.assertEqual(cheapest_deed(HOUSE, ((), (0, 0))), ("work", 0))
        self.assertEqual(cheapest_deed(HOUSE, ((), (1, 0))), ("take", 0))
        self.assertEqual(cheapest_deed(HOUSE, ((), (2, 0))), ("take", 1))
        self.assertEqual(cheapest_deed(HOUSE, ((1,), (2, 0))), STOP)
        # Equal dear prices, also below 0 or far above it.
        self.assertEqual(cheapest_deed(House([Project.sure(6), OFFER], uniform(2, 2)), ((), (0, 0))), ("take", 0))
        self.assertEqual(cheapest_deed(House([OFFER, Project.sure(6)], uniform(2, 2)), ((), (0, 0))), ("work", 0))
        self.assertEqual(cheapest_deed(House([Project.sure(9999), Project.sure(-2)], uniform(2, 2)), ((1,), (0, 0))), ("take", 0))
        self.assertEqual(cheapest_deed(House([Project.sure(-1), Project.sure(-2)], uniform(2, 2)), ((), (0, 0))), ("take", 1))
        self.assertEqual(cheapest_deed(House([OFFER], uniform(1, 0)), ((), (0,))), STOP)


class CheapestWorth(Checks):
    def test_known_ones(self):
        self.assertEqual(cheapest_worth(HOUSE).text(), "13/2")
        self.assertEqual(cheapest_worth(house=HOUSE, at=None).text(), "13/2")
        self.assertEqual(cheapest_worth(HOUSE, at=[[], [2, 0]]).text(), "7")
        self.assertEqual(cheapest_worth(HOUSE, at=((1,), (0, 0))).text(), "0")
        self.assertIs(type(cheapest_worth(HOUSE, at=((1,), (0, 0)))), Frac)
        self.assertEqual(cheapest_worth(House([OFFER, Project.sure(7)], uniform(2, 2))).text(), "15")
        self.assertEqual(cheapest_worth(House([Project.sure(-5), Project.sure(-2)], uniform(2, 1))).text(), "-5")
        self.assertEqual(cheapest_worth(House([OFFER], uniform(1, 0))).text(), "0")

    def test_against_all_plans(self):
        chance = random.Random(63)
        some = [full_house(chance, most_things=2) for _ in range(10)]
        for house in [*some, HOUSE, House([TRIES, FREE], uniform(2, 1)), House([TRIES, DEAR], uniform(2, 2))]:
            standings = all_standings(house)
            for standing, value in best_values(paid_house(house), standings, full_only=True).items():
                self.assertEqual(fraction(cheapest_worth(house, at=standing)), -value)

    def test_no_deed_pays_less(self):
        chance = random.Random(64)
        for house in [full_house(chance) for _ in range(10)]:
            paid = paid_house(house)
            values = {standing: -fraction(cheapest_worth(house, at=standing)) for standing in all_standings(house)}
            for standing, value in values.items():
                possible = deeds(house, standing)[0 if standing[0] in house.family.full_sets() else 1:]
                found = {deed: deed_value(paid, values, standing, deed) for deed in possible}
                self.assertEqual(max(found.values()), value)
                self.assertEqual(found[cheapest_deed(house, standing)], value)

    def test_against_lightest_sets(self):
        chance = random.Random(65)
        for house in [full_house(chance, most_states=4) for _ in range(14)]:
            for standing in [first_standing(house), *all_standings(house)[::7]]:
                wanted = mean_of_draws(house, standing, lightest_weight, greatest_shares)
                for passed in both_kinds(standing):
                    self.assertEqual(fraction(cheapest_worth(house, at=passed)), wanted)

    def test_far_more_than_3000_rows(self):
        ends = [("end", 9), ("end", Frac(-5, 3)), ("end", 30)]
        web = Project([*[("step", Frac(cost, 7), [(cost + at + 1, at) for at in range(8)]) for cost in range(5)], *ends])
        offers = [Project.box(1, [(at + 1, 5 * at - first) for at in range(7)]) for first in range(6)]
        started = time.monotonic()
        wanted = frac(6 * fraction(cheapest_worth(House([web], uniform(1, 1)))))
        self.assertEqual(cheapest_worth(House([web] * 6, uniform(6, 6))), wanted)
        left = House([offers[0], web, offers[1]], uniform(3, 2))
        right = House([web, offers[2], offers[3]], forests(3, [(0, 1), (0, 1), (1, 2)]))
        both = House([*left.projects, *right.projects], beside(left.family, right.family))
        self.assertEqual(cheapest_worth(both), cheapest_worth(left) + cheapest_worth(right))
        self.assertLess(time.monotonic() - started, 10)
        for half in (left, right):
            wanted = mean_of_draws(half, first_standing(half), lightest_weight, greatest_shares)
            self.assertEqual(fraction(cheapest_worth(half)), wanted)


class Wrong(Checks):
    WRONG = [
        *[value for value in ODD_VALUES if value is not None], ((), (0,)), ((), (0, 0, 0)), ((0, 1), (0, 0)), ((), (3, 0)),
        ((), (True, 0)), [[False], [0, 0]], "first", ((), (0, -1)), (None, (0, 0)), ((), (0, 0), ()),
    ]

    def calls(self, house, standing):
        return (lambda: cheapest_deed(house, standing), lambda: cheapest_worth(house, at=standing))

    def test_no_exchange_first(self):
        for family in BAD:
            house = House([VAIN] * family.size, family)
            for standing in (first_standing(house), "none", []):
                for call in self.calls(house, standing):
                    error = self.error_of(NoExchange, call)
                    self.assertEqual((error.smaller, error.larger), exchange_fault(family))

    def test_no_end_second(self):
        for family in GOOD:
            for at in range(family.size):
                for void in (RISKY, HIDDEN, Project([("void",)])):
                    house = House([OFFER] * at + [void] * (family.size - at), family)
                    for standing in (first_standing(house), "none", []):
                        for call in self.calls(house, standing):
                            self.assertEqual(self.error_of(NoEnd, call).thing, at)
                    self.assertEqual(self.error_of(NoEnd, cheapest_worth, house).thing, at)
        self.assertEqual(self.error_of(NoEnd, cheapest_worth, House([OFFER, HIDDEN, OFFER], uniform(3, 1))).thing, 1)

    def test_invalid_standings(self):
        for standing in self.WRONG:
            before = copy.deepcopy(standing)
            for call in self.calls(HOUSE, standing):
                self.assertIs(self.error_of(InvalidStanding, call).value, standing)
                self.assertEqual(standing, before)
        self.assertIsNone(self.error_of(InvalidStanding, cheapest_deed, HOUSE, None).value)


class Basics(Checks):
    def test_nothing_changes(self):
        standing = [[], [0, 0]]
        house = House([Project(OFFER.rows), Project.sure(Frac(7))], from_tops(2, [[1], [0]]))
        for _ in range(2):
            self.assertEqual(cheapest_worth(HOUSE, at=standing), cheapest_worth(house))
            self.assertEqual(cheapest_deed(HOUSE, standing), cheapest_deed(house, ((), (0, 0))))
            self.assertEqual(standing, [[], [0, 0]])
            self.assertEqual(HOUSE.projects, (OFFER, Project.sure(7)))
        self.assertEqual(deep_list(standing), [[], [0, 0]])
