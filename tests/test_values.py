import unittest

from greatestnext.fracs import Frac, ascending, greatest
from greatestnext.things import all_sets, is_part, joined, parts_of, rest_of, smaller_by_one, touches
from greatestnext.values import is_ascending


class Ascending(unittest.TestCase):
    def test_right_ones(self):
        for value in ((), [], (0,), [5], (0, 1, 2), [1, 4, 5], tuple(range(6))):
            self.assertIs(is_ascending(value, 6), True)

    def test_wrong_ones(self):
        wrong = (
            None, 0, "", "01", (6,), (-1,), (1, 0), (1, 1), (True,), (False, 1), [0, True], ("0",), (None,), ((0,),), {0}, {0: 1},
            (Frac(1),), (0, 1, 6),
        )
        for value in wrong:
            self.assertIs(is_ascending(value, 6), False, value)


class Fracs(unittest.TestCase):
    def test_order(self):
        fracs = [Frac(3), Frac(-1, 2), Frac(1, 3), Frac(3), Frac(0), Frac(-1, 2), Frac(2, 7)]
        self.assertEqual(ascending(fracs), [Frac(-1, 2), Frac(0), Frac(2, 7), Frac(1, 3), Frac(3)])
        self.assertEqual(ascending([]), [])
        self.assertEqual(greatest(fracs), Frac(3))
        self.assertEqual(greatest([Frac(-2), Frac(-5)]), Frac(-2))
        self.assertEqual(len(fracs), 7)


class Things(unittest.TestCase):
    def test_sets(self):
        self.assertEqual(all_sets(3), [(), (0,), (1,), (2,), (0, 1), (0, 2), (1, 2), (0, 1, 2)])
        self.assertEqual(parts_of((1, 4)), [(), (1,), (4,), (1, 4)])
        self.assertEqual(len(all_sets(6)), 64)
        self.assertEqual(smaller_by_one((1, 2, 4)), [(2, 4), (1, 4), (1, 2)])
        self.assertEqual(joined([0, 3], (1, 3)), (0, 1, 3))
        self.assertEqual(rest_of([0, 1, 4], (1, 2)), (0, 4))
        self.assertEqual([is_part((0, 2), [0, 1, 2]), is_part((), ()), is_part((3,), (0,))], [True, True, False])
        self.assertEqual([touches((0, 2), [2, 3]), touches((), (1,)), touches((3,), (0,))], [True, False, False])
