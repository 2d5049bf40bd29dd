import unittest

from greatestnext import meets
from greatestnext.errors import NoExchange
from greatestnext.families import Family, choices, exchange_fault, forests, independent_rows, quotas, uniform
from greatestnext.meets import largest_common, split, union, union_bound
from tests.checks import Checks
from tests.interface import check_interface
from tests.samples import BAD, FOURS, GOOD, sets_below

RIGHT_FOURS = [family for family in FOURS if exchange_fault(family) is None]
SIX = [
    forests(5, [(0, 1), (1, 2), (0, 2), (2, 3), (3, 4), (2, 4)]), uniform(6, 2), quotas(6, [((0, 1), 1), ((2, 3), 1), ((4, 5), 1)]),
    independent_rows(2, [[1, 0, 0], [0, 1, 0], [0, 0, 1], [1, 1, 0], [0, 1, 1], [0, 0, 0]]),
    choices([["a"], ["a", "b"], ["b", "c"], ["c"], ["a", "c"], ["a"]]),
]
PAIRS = [(one, other) for one in GOOD for other in GOOD if one.size == other.size]
PAIRS += [(one, other) for one in RIGHT_FOURS[::5] for other in RIGHT_FOURS[::7]]
PAIRS += [(one, other) for one in SIX for other in SIX]


class Interface(unittest.TestCase):
    def test_defined_here(self):
        check_interface(self, meets, {
            "largest_common": ["one", "other"], "union": ["one", "other"], "split": ["one", "other", "things"],
            "union_bound": ["one", "other", "things"],
        })


class Meets(Checks):
    def test_largest_common(self):
        for one, other in PAIRS:
            found = largest_common(one=one, other=other)
            self.assert_tuples(found)
            held, part = found
            both = [things for things in one.sets if things in other.sets]
            self.assertIn(held, both)
            self.assertEqual(len(held), max(len(things) for things in both))
            self.assertIn(part, sets_below(one.size))
            rest = tuple(thing for thing in range(one.size) if thing not in part)
            self.assertEqual(len(held), one.rank(part) + other.rank(rest))

    def test_largest_common_known(self):
        doors = quotas(4, [((0, 1), 1), ((2, 3), 1)])
        rooms = quotas(4, [((0, 2), 1), ((1, 3), 1)])
        self.assertEqual(len(largest_common(doors, rooms)[0]), 2)
        self.assertEqual(largest_common(uniform(3, 0), uniform(3, 3))[0], ())

    def test_union(self):
        for one, other in PAIRS:
            made = {tuple(sorted({*held, *added})) for held in one.sets for added in other.sets}
            found = union(one=one, other=other)
            self.assertEqual(found.size, one.size)
            self.assertEqual(found.sets, tuple(things for things in sets_below(one.size) if things in made))
            self.assertIsNone(exchange_fault(found))
        self.assertEqual(union(uniform(4, 1), uniform(4, 2)), uniform(4, 3))

    def test_split(self):
        none = 0
        for one, other in PAIRS:
            for things in sets_below(one.size):
                found = split(one, other, things)
                rest_in_other = [
                    held for held in one.sets
                    if set(held) <= set(things) and tuple(sorted(set(things) - set(held))) in other.sets
                ]
                if not rest_in_other:
                    self.assertIsNone(found)
                    none += 1
                    continue
                self.assert_tuples(found)
                self.assertIn(found[0], one.sets)
                self.assertIn(found[1], other.sets)
                self.assertEqual(sorted([*found[0], *found[1]]), list(things))
                if one.size < 4:
                    self.assertEqual(split(one=one, other=other, things=list(things)), found)
        self.assertGreater(none, 100)

    def test_union_bound(self):
        for one, other in PAIRS[::2]:
            both = union(one, other)
            for things in sets_below(one.size)[::3]:
                part = union_bound(one, other, things)
                self.assert_tuples(part)
                self.assertEqual(list(part), sorted(set(part) & set(things)))
                counts = [
                    len(things) - len(other_part) + one.rank(other_part) + other.rank(other_part)
                    for other_part in sets_below(one.size) if set(other_part) <= set(things)
                ]
                found = len(things) - len(part) + one.rank(part) + other.rank(part)
                self.assertEqual([found, found], [both.rank(things), min(counts)])
        one, other = uniform(4, 1), uniform(4, 2)
        self.assertEqual(union_bound(one=one, other=other, things=[0, 1, 3]), union_bound(one, other, (0, 1, 3)))

    def test_without_exchange(self):
        calls = (
            largest_common, union, lambda one, other: split(one, other, (0,)), lambda one, other: split(one, other, (0, 1, 2)),
            lambda one, other: union_bound(one, other, ()), lambda one, other: union_bound(one, other, (1, 2)),
        )
        for bad in BAD:
            fine = uniform(bad.size, 2)
            worse = Family(3, [(), (0,), (1,), (2,), (1, 2)])
            for call in calls:
                for one, other, first in ((bad, fine, bad), (fine, bad, bad), (bad, worse, bad), (worse, bad, worse)):
                    error = self.error_of(NoExchange, call, one, other)
                    self.assertEqual((error.smaller, error.larger), exchange_fault(first))

    def test_nothing_changes(self):
        one, other, things = uniform(4, 2), forests(3, [(0, 1), (1, 2), (0, 2), (0, 1)]), [0, 2, 3]
        before = (one.sets, other.sets)
        for _ in range(2):
            results = [largest_common(one, other), union(one, other).sets, split(one, other, things), union_bound(one, other, things)]
            self.assertEqual(results, [
                largest_common(uniform(4, 2), other), union(uniform(4, 2), other).sets, split(one, other, (0, 2, 3)),
                union_bound(uniform(4, 2), other, (0, 2, 3)),
            ])
        self.assertEqual((one.sets, other.sets), before)
        self.assertEqual(things, [0, 2, 3])
