import random
import unittest
from fractions import Fraction

from greatestnext.equations import solved
from greatestnext.fracs import Frac
from tests.reckon import frac, fraction, solve


class Solved(unittest.TestCase):
    def test_against_own_elimination(self):
        chance = random.Random(3)
        for size in list(range(0, 9)) * 5:
            shares = [[chance.choice([0, 0, 1, 2]) for _ in range(size)] for _ in range(size)]
            bases = [Frac(chance.randint(-9, 9), chance.randint(1, 5)) for _ in range(size)]
            factors = [[(Frac(share, 3 * size), at) for at, share in enumerate(row) if share > 0] for row in shares]
            matrix = [
                [int(row == at) - Fraction(share, 3 * size) for at, share in enumerate(shares[row])] for row in range(size)
            ]
            wanted = solve(matrix, [fraction(base) for base in bases])
            self.assertEqual(solved(bases, factors), [frac(number) for number in wanted])

    def test_same_unknown_twice_and_itself(self):
        factors = [[(Frac(1, 4), 0), (Frac(1, 4), 1), (Frac(1, 4), 1)], []]
        self.assertEqual(solved([Frac(1), Frac(6)], factors), [Frac(16, 3), Frac(6)])

    def test_arguments_stay(self):
        bases = [Frac(1), Frac(2)]
        factors = [[(Frac(1, 2), 1)], [(Frac(1, 2), 0)]]
        solved(bases, factors)
        self.assertEqual(bases, [Frac(1), Frac(2)])
        self.assertEqual(factors, [[(Frac(1, 2), 1)], [(Frac(1, 2), 0)]])
