import itertools
import unittest

from greatestnext import circuits as module
from greatestnext.circuits import circuits, closed_by, closure, swaps
from greatestnext.errors import NoExchange
from greatestnext.families import exchange_fault, forests, from_tops, independent_rows, uniform
from tests.checks import Checks
from tests.interface import check_interface
from tests.samples import BAD, FAMILIES, FOURS, GOOD, sets_below

SIX = [
    forests(5, [(0, 1), (1, 2), (0, 2), (2, 3), (3, 4), (2, 4)]), uniform(6, 3), uniform(6, 6), uniform(6, 0),
    independent_rows(2, [[1, 0, 0], [0, 1, 0], [0, 0, 1], [1, 1, 0], [0, 1, 1], [0, 0, 0]]),
    forests(4, [(0, 1), (0, 1), (1, 1), (1, 2), (2, 3), (3, 1)]),
]
RIGHT = [*GOOD, *[family for family in FOURS if exchange_fault(family) is None], *SIX]


class Interface(unittest.TestCase):
    def test_defined_here(self):
        check_interface(self, module, {
            "circuits": ["family"], "closed_by": ["family", "taken", "thing"], "closure": ["family", "things"],
            "swaps": ["family", "one", "other"],
        })


class Circuits(Checks):
    def test_against_definition(self):
        for family in (*FAMILIES, *FOURS, *SIX):
            wanted = [
                things for things in sets_below(family.size)
                if things not in family.sets and all(
                    part in family.sets for many in range(len(things)) for part in itertools.combinations(things, many)
                )
            ]
            self.assertEqual(circuits(family=family), tuple(wanted))
            self.assert_tuples(circuits(family))

    def test_known_ones(self):
        self.assertEqual(circuits(forests(3, [(0, 1), (1, 2), (0, 2)])), ((0, 1, 2),))
        self.assertEqual(circuits(uniform(3, 3)), ())
        self.assertEqual(circuits(uniform(2, 0)), ((0,), (1,)))
        # The exchange property is not asked for.
        self.assertEqual(circuits(from_tops(3, [(0, 1), (2,)])), ((0, 2), (1, 2)))

    def test_closed_by(self):
        seen = 0
        for family in RIGHT:
            for taken in family.sets:
                for thing in range(family.size):
                    if thing in taken or thing in family.addable(taken):
                        continue
                    found = [circuit for circuit in circuits(family) if set(circuit) <= {*taken, thing}]
                    self.assertEqual(len(found), 1)
                    self.assertEqual(closed_by(family, taken, thing), found[0])
                    self.assertEqual(closed_by(family=family, taken=list(taken), thing=thing), found[0])
                    seen += 1
        self.assertGreater(seen, 100)

    def test_closure(self):
        for family in RIGHT:
            for things in sets_below(family.size):
                rank = family.rank(things)
                wanted = [at for at in range(family.size) if family.rank(tuple(sorted({*things, at}))) == rank]
                self.assertEqual(closure(family, things), tuple(wanted))
                self.assertEqual(closure(family=family, things=list(things)), tuple(wanted))
                self.assertLessEqual(set(things), set(wanted))
        self.assertEqual(closure(forests(3, [(0, 1), (1, 2), (0, 2), (1, 1)]), (0, 2)), (0, 1, 2, 3))

    def test_swaps(self):
        for family in RIGHT:
            full = family.full_sets()
            for one in full:
                for other in full:
                    for pairs in (swaps(family, one, other), swaps(family=family, one=list(one), other=list(other))):
                        self.assert_tuples(pairs)
                        self.assertEqual(len(pairs), len(set(one) - set(other)))
                        held = set(one)
                        for out, into in pairs:
                            self.assertIn(out, held)
                            self.assertNotIn(into, held)
                            held = held - {out} | {into}
                            self.assertIn(tuple(sorted(held)), full)
                        self.assertEqual(held, set(other))

    def test_without_exchange(self):
        for family in BAD:
            full = family.full_sets()
            for call in (
                lambda: closed_by(family, (), 0), lambda: closure(family, (0,)), lambda: closure(family, ()),
                lambda: swaps(family, full[0], full[-1]), lambda: swaps(family, full[0], full[0]),
            ):
                error = self.error_of(NoExchange, call)
                self.assertEqual((error.smaller, error.larger), exchange_fault(family))
                self.assert_tuples((error.smaller, error.larger))

    def test_nothing_changes(self):
        family = uniform(4, 2)
        one, other = [0, 1], [2, 3]
        self.assertEqual(swaps(family, one, other), swaps(uniform(4, 2), (0, 1), (2, 3)))
        closed_by(family, one, 2)
        closure(family, one)
        self.assertEqual([one, other], [[0, 1], [2, 3]])
        self.assertEqual(family, uniform(4, 2))
