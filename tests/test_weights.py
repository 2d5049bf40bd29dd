import random
import unittest
from fractions import Fraction

from greatestnext import weights as module
from greatestnext.families import Family, exchange_fault, forests, from_tops, uniform
from greatestnext.fracs import Frac
from greatestnext.weights import greedy_set, heaviest_set, quotient, set_weight
from tests.checks import Checks
from tests.interface import check_interface
from tests.reckon import frac, fraction
from tests.samples import FAMILIES, FOURS, random_family, sets_below

SIX = [random_family(random.Random(seed), 6) for seed in range(20)]
SOME = [*FAMILIES, *FOURS[::3], *SIX]


def as_number(weight):
    """Return the weight as a Fraction, 0 for None."""
    if weight is None:
        return Fraction(0)
    return Fraction(weight) if isinstance(weight, int) else fraction(weight)


def random_weights(chance, size):
    return [chance.choice([None, -2, 0, Frac(-1, 3), Frac(0), 1, 2, 2, Frac(2), 3, Frac(5, 2), Frac(7, 3), 10 ** 39]) for _ in range(size)]


class Interface(unittest.TestCase):
    def test_defined_here(self):
        check_interface(self, module, {
            "greedy_set": ["family", "weights"], "heaviest_set": ["family", "weights"], "set_weight": ["weights", "things"],
            "quotient": ["family"],
        })


class Weights(Checks):
    def test_greedy_set(self):
        chance = random.Random(9)
        for family in SOME:
            for _ in range(6):
                weights = random_weights(chance, family.size)
                before = list(weights)
                taken = ()
                while True:
                    found = [
                        (-as_number(weights[thing]), thing) for thing in range(family.size)
                        if thing not in taken and tuple(sorted([*taken, thing])) in family.sets and as_number(weights[thing]) > 0
                    ]
                    if not found:
                        break
                    taken = tuple(sorted([*taken, min(found)[1]]))
                self.assertEqual(greedy_set(family, weights), taken)
                self.assertEqual(greedy_set(family=family, weights=tuple(weights)), taken)
                self.assertEqual(weights, before)
                self.assert_tuples(greedy_set(family, weights))

    def test_greedy_set_known(self):
        family = from_tops(3, [(0, 1), (2,)])
        self.assertEqual(greedy_set(family, [5, 5, 6]), (2,))
        self.assertEqual(greedy_set(family, [5, 5, 5]), (0, 1))
        self.assertEqual(greedy_set(family, [None, Frac(11, 2), 5]), (1,))
        self.assertEqual(greedy_set(family, [0, Frac(-1), None]), ())
        self.assertEqual(greedy_set(uniform(3, 1), [1, Frac(1), Frac(2, 2)]), (0,))
        self.assertEqual(greedy_set(uniform(3, 2), [0, Frac(1, 9), -3]), (1,))
        self.assertEqual(greedy_set(uniform(4, 2), [1, 2, 3, 3]), (2, 3))

    def test_heaviest_set(self):
        chance = random.Random(10)
        for family in SOME:
            for _ in range(6):
                weights = random_weights(chance, family.size)
                before = list(weights)
                found = heaviest_set(family, weights)
                self.assertIn(found, family.sets)
                self.assertTrue(all(as_number(weights[thing]) > 0 for thing in found))
                most = max(sum(max(Fraction(0), as_number(weights[thing])) for thing in held) for held in family.sets)
                self.assertEqual(sum(as_number(weights[thing]) for thing in found), most)
                self.assertEqual(heaviest_set(family=family, weights=tuple(weights)), found)
                self.assertEqual(weights, before)
        self.assertEqual(heaviest_set(from_tops(3, [(0, 1), (2,)]), [5, 5, 6]), (0, 1))
        self.assertEqual(heaviest_set(uniform(3, 3), [None, 0, -1]), ())

    def test_set_weight(self):
        weights = [3, Frac(1, 2), None, -2, Frac(0)]
        self.assertEqual(set_weight(weights, (0, 1, 3)), Frac(3, 2))
        self.assertEqual(set_weight(weights=tuple(weights), things=[1, 4]), Frac(1, 2))
        self.assertEqual(set_weight(weights, ()), Frac(0))
        self.assertIs(type(set_weight(weights, ())), Frac)
        self.assertIs(type(set_weight(weights, [0])), Frac)

    def test_greedy_is_heaviest_with_exchange(self):
        chance = random.Random(11)
        for family in [*FAMILIES, *FOURS, *SIX]:
            share = quotient(family)[0]
            for _ in range(2):
                weights = random_weights(chance, family.size)
                greedy = set_weight(weights, greedy_set(family, weights))
                heaviest = set_weight(weights, heaviest_set(family, weights))
                self.assertFalse(greedy.is_below(share * heaviest))
                if exchange_fault(family) is None:
                    self.assertEqual(greedy, heaviest)


class Quotient(Checks):
    def full_within(self, family, things):
        """Return the sets within these things to which none of them can be added."""
        within = [held for held in family.sets if set(held) <= set(things)]
        return [held for held in within if not any(set(held) < set(other) for other in within)]

    def test_against_definition(self):
        for family in [*FAMILIES, *FOURS, *SIX]:
            shares = []
            for things in sets_below(family.size):
                full = self.full_within(family, things)
                large = max(len(held) for held in full)
                if large > 0:
                    shares.append((Fraction(min(len(held) for held in full), large), things))
            found = quotient(family=family)
            self.assert_tuples(found)
            if not shares:
                self.assertEqual(found, (Frac(1), (), (), ()))
                continue
            least = min(share for share, _ in shares)
            share, things, small, large = found
            self.assertEqual(share, frac(least))
            self.assertEqual(things, [things for share, things in shares if share == least][0])
            full = self.full_within(family, things)
            self.assertIn(small, full)
            self.assertEqual(len(small), min(len(held) for held in full))
            self.assertIn(large, family.sets)
            self.assertLessEqual(set(large), set(things))
            self.assertEqual(len(large), max(len(held) for held in full))
            self.assertEqual(found, quotient(Family(family.size, family.sets)))

    def test_1_exactly_with_exchange(self):
        for family in [*FAMILIES, *FOURS, *SIX]:
            self.assertEqual(quotient(family)[0] == Frac(1), exchange_fault(family) is None)

    def test_known_ones(self):
        share, things, small, large = quotient(from_tops(3, [(0, 1), (2,)]))
        self.assertEqual([share.text(), things, small, large], ["1/2", (0, 1, 2), (2,), (0, 1)])
        self.assertEqual(quotient(uniform(3, 0)), (Frac(1), (), (), ()))
        self.assertEqual(quotient(Family(2, [(), (1,)])), (Frac(1), (1,), (1,), (1,)))
        self.assertEqual(quotient(forests(3, [(0, 1), (1, 2), (0, 2)])), (Frac(1), (0,), (0,), (0,)))
        self.assertEqual(quotient(from_tops(6, [(0, 1, 2, 3, 4), (5,)]))[0], Frac(1, 5))
