import copy
import itertools
import random
import unittest

from greatestnext import families
from greatestnext.errors import InvalidFamily, NoExchange, NotClosed, NotNested, WrongSize
from greatestnext.families import (
    Family, behind, beside, choices, common, cut, exchange_fault, forests, from_tops, independent_rows, quotas, turned, uniform,
    without,
)
from greatestnext.fracs import Frac
from tests.checks import Checks, both_kinds, deep_list
from tests.interface import check_interface, parameters
from tests.samples import BAD, FAMILIES, FOURS, GOOD, ODD_VALUES, random_family, sets_below

PAIR = ((), (0,), (1,), (2,), (0, 1))
SIX = [random_family(random.Random(seed), 6) for seed in range(12)]


def held_by(size, fits):
    """Return the sets that fit, in order of size."""
    return tuple(things for things in sets_below(size) if fits(things))


def first_fault(family):
    for smaller in family.sets:
        for larger in family.sets:
            if len(smaller) < len(larger):
                if not any(tuple(sorted({*smaller, thing})) in family.sets for thing in set(larger) - set(smaller)):
                    return (smaller, larger)
    return None


class Interface(unittest.TestCase):
    def test_defined_here(self):
        check_interface(self, families, {
            "Family": ["size", "sets"], "exchange_fault": ["family"], "from_tops": ["size", "tops"], "uniform": ["size", "most"],
            "quotas": ["size", "classes"], "forests": ["nodes", "edges"], "independent_rows": ["p", "rows"],
            "choices": ["lists"], "beside": ["one", "other"], "cut": ["family", "most"], "without": ["family", "thing"],
            "behind": ["family", "thing"], "turned": ["family"], "common": ["one", "other"],
        })
        for name in ("__init__", "__contains__", "__eq__", "rank", "full_sets", "addable"):
            self.assertIn(name, vars(Family))
        self.assertEqual(parameters(Family.rank), ["things"])
        self.assertEqual(parameters(Family.addable), ["taken"])
        self.assertEqual(parameters(Family.full_sets), [])


class Making(Checks):
    def test_any_order_twice_lists_and_tuples(self):
        chance = random.Random(2)
        for family in (*FAMILIES, *SIX):
            sets = [*family.sets, *family.sets[::2]]
            chance.shuffle(sets)
            for passed in (sets, tuple(sets), deep_list(sets), [list(sets[0]), *sets]):
                before = copy.deepcopy(passed)
                other = Family(family.size, passed)
                self.assertEqual(other.size, family.size)
                self.assertEqual(other.sets, family.sets)
                self.assertEqual(passed, before)
                self.assertTrue(other == family)

    def test_attributes(self):
        family = Family(size=3, sets=[[0, 1], [2], [1], [0], []])
        self.assertEqual(family.size, 3)
        self.assertIs(type(family.size), int)
        self.assertEqual(family.sets, PAIR)
        self.assert_tuples(family.sets)
        self.assertEqual(Family(1, [()]).sets, ((),))

    def test_later_changes_have_no_effect(self):
        sets = deep_list(PAIR)
        family = Family(3, sets)
        sets[4].append(2)
        sets.append([0, 2])
        self.assertEqual(family.sets, PAIR)

    def test_things_in_no_set(self):
        self.assertEqual(Family(6, [(), (4,)]).sets, ((), (4,)))

    def test_wrong_size(self):
        for size in (*ODD_VALUES, 8, -5, Frac(3), [3]):
            if size in (1,) and type(size) is int:
                continue
            for function in (Family, from_tops):
                for sets in ([()], [], [(9,)], [None]):
                    self.assert_keeps(self.error_of(WrongSize, function, size, sets), "many", size)
        for size in (0, 7):
            self.assertEqual(self.error_of(WrongSize, Family, size, [()]).many, size)

    def test_invalid_family(self):
        wrong = (
            None, 0, "", "01", True, Frac(0), (3,), (-1,), (1, 0), (1, 1), (0, 1, 3), (True,), [False], [0, True], (0, None), ("0",),
            ((),), [[0]], (Frac(0),), [0, [1]], (10 ** 399,),
        )
        for value in wrong:
            for function in (Family, from_tops):
                for at, sets in (
                    (0, [value]), (0, (value,)), (1, [(), value]), (2, [(0, 1), (), value, None, value]), (1, [[0], [[0]], value]),
                ):
                    before = copy.deepcopy(sets)
                    self.assertEqual(self.error_of(InvalidFamily, function, 3, sets).at, at)
                    self.assertEqual(sets, before)

    def test_not_closed(self):
        cases = (
            ([], ()), ([(0,)], ()), ([(0, 1)], ()), ([(), (0, 1)], (0,)), ([(), (0, 1), (0,)], (1,)), ([(), (1, 2), (0, 1), (1,)], (0,)),
            ([(), (0,), (1,), (2,), (0, 1, 2)], (0, 1)), ([(), (0,), (1,), (2,), (0, 1), (1, 2), (0, 1, 2)], (0, 2)),
            ([(), (2,), (1, 2), (0,)], (1,)),
        )
        for sets, missing in cases:
            for passed in both_kinds(sets):
                error = self.error_of(NotClosed, Family, 3, passed)
                self.assertEqual(error.missing, missing)
                self.assertIs(type(error.missing), tuple)
        # from_tops adds what is missing.
        self.assertEqual(from_tops(3, [(0, 1)]).sets, ((), (0,), (1,), (0, 1)))

    def test_each_set_left_out(self):
        for family in (*FAMILIES, *SIX):
            for out in family.sets:
                if out in family.full_sets():
                    continue
                error = self.error_of(NotClosed, Family, family.size, [held for held in family.sets if held != out])
                self.assertEqual(error.missing, out)

    def test_order_of_errors(self):
        self.error_of(WrongSize, Family, 7, [(9,), (0, 1)])
        self.assertEqual(self.error_of(InvalidFamily, Family, 3, [(0, 1), (3,)]).at, 1)


class Asking(Checks):
    def test_in(self):
        family = Family(3, PAIR)
        for things in sets_below(3):
            self.assertIs(things in family, things in PAIR)
            self.assertIs(list(things) in family, things in PAIR)
        for value in (
            None, 0, "", "0", True, (True,), [False, 1], (False,), (1, 0), (0, 0), (3,), (-1,), ((),), [[]], [None], (Frac(0),),
            {0}, {}, (0, 1, 2), (0, 2), (0, "1"), ([0], 1), ("",), Frac(0),
        ):
            self.assertIs(value in family, False, value)
            self.assertIs(value not in family, True, value)

    def test_equal(self):
        family = Family(3, PAIR)
        self.assertIs(family == Family(3, PAIR[::-1]), True)
        self.assertIs(family != Family(3, PAIR[::-1]), False)
        for other in (Family(4, PAIR), Family(3, PAIR[:4]), None, 3, PAIR, "", True, (3, PAIR)):
            self.assertIs(family == other, False)
            self.assertIs(family != other, True)
            self.assertIs(other == family, False)

    def test_rank(self):
        for family in (*FAMILIES, *SIX):
            for things in sets_below(family.size):
                wanted = max(len(held) for held in family.sets if set(held) <= set(things))
                self.assertEqual(family.rank(things), wanted)
                self.assertEqual(family.rank(things=list(things)), wanted)
                self.assertIs(type(family.rank(things)), int)

    def test_full_sets_and_addable(self):
        for family in (*FAMILIES, *SIX):
            for taken in family.sets:
                wanted = [
                    thing for thing in range(family.size)
                    if thing not in taken and tuple(sorted([*taken, thing])) in family.sets
                ]
                self.assertEqual(family.addable(taken), tuple(wanted))
                self.assertEqual(family.addable(taken=list(taken)), tuple(wanted))
            self.assertEqual(family.full_sets(), tuple(held for held in family.sets if not family.addable(held)))
        self.assertEqual(Family(3, PAIR).full_sets(), ((2,), (0, 1)))
        self.assertEqual(Family(2, [()]).full_sets(), ((),))
        self.assertEqual(uniform(3, 2).full_sets(), ((0, 1), (0, 2), (1, 2)))

    def test_exchange_fault(self):
        faults = 0
        for family in (*FAMILIES, *FOURS, *SIX):
            wanted = first_fault(family)
            self.assertEqual(exchange_fault(family), wanted)
            self.assert_tuples(exchange_fault(family))
            faults += wanted is not None
        self.assertGreater(faults, 50)
        self.assertEqual(exchange_fault(family=Family(3, PAIR)), ((2,), (0, 1)))
        self.assertIsNone(exchange_fault(uniform(4, 2)))
        # (3,) lacks a thing of every larger set; the first of these in order of size counts.
        self.assertEqual(exchange_fault(from_tops(4, [(0, 1, 2), (3,)])), ((3,), (0, 1)))


class Makers(Checks):
    def test_from_tops(self):
        chance = random.Random(4)
        for size in range(1, 7):
            for _ in range(6):
                tops = [tuple(sorted(chance.sample(range(size), chance.randint(0, size)))) for _ in range(chance.randint(0, 4))]
                wanted = held_by(size, lambda held: held == () or any(set(held) <= set(top) for top in tops))
                for passed in both_kinds(tops):
                    self.assertEqual(from_tops(size, passed).sets, wanted)
                    self.assertEqual(from_tops(size=size, tops=passed).size, size)
        self.assertEqual(from_tops(2, []).sets, ((),))
        self.assertEqual(from_tops(2, [(1,), (1,), ()]).sets, ((), (1,)))

    def test_uniform(self):
        for size in range(1, 7):
            for most in (0, 1, 2, 3, 5, 6, 7, 10 ** 30):
                family = uniform(size=size, most=most)
                self.assertEqual(family.size, size)
                self.assertEqual(family.sets, held_by(size, lambda held: len(held) <= most))
                self.assertIsNone(exchange_fault(family))

    def quotas_wanted(self, size, classes):
        return held_by(size, lambda held: all(len(set(held) & set(things)) <= limit for things, limit in classes))

    def test_quotas(self):
        cases = (
            (1, []), (3, [((), 0)]), (3, [((0, 1), 1)]), (3, [((0, 1), 0), ((2,), 1)]), (4, [((0, 1), 1), ((0, 1), 2), ((0, 1, 2, 3), 2)]),
            (6, [((0, 1, 2, 3, 4, 5), 3), ((0, 1, 2), 2), ((3, 5), 1), ((0,), 0), ((), 5), ((0, 1), 1)]),
            (5, [((1, 3), 1), ((0, 1, 3, 4), 2), ((2,), 10 ** 40), ((1,), 1)]), (2, [((0, 1), 2)]), (4, [((0, 3), 1), ((1, 2), 1)]),
            (3, [((0, 1, 2), 0)]),
        )
        for size, classes in cases:
            for order in (classes, classes[::-1]):
                for passed in both_kinds(order):
                    before = copy.deepcopy(passed)
                    family = quotas(size, passed)
                    self.assertEqual(family.size, size)
                    self.assertEqual(family.sets, self.quotas_wanted(size, classes))
                    self.assertIsNone(exchange_fault(family))
                    self.assertEqual(passed, before)
        self.assertEqual(quotas(size=2, classes=[((0, 1), 1)]), uniform(2, 1))

    def test_quotas_not_nested(self):
        cases = (
            ([((0, 1), 1), ((1, 2), 1)], 1), ([((0, 1), 9), ((2, 3), 9), ((), 0), ((1, 2), 9), ((1, 3), 1)], 3),
            ([((0,), 1), ((0, 1), 1), ((0, 1, 2), 1), ((0, 3), 0)], 3), ([((0, 1, 2), 1), ((0, 1), 1), ((1, 2), 1), ((1, 3), 1)], 2),
        )
        for classes, at in cases:
            for passed in both_kinds(classes):
                self.assertEqual(self.error_of(NotNested, quotas, 4, passed).at, at)

    def test_quotas_nested_or_not(self):
        for groups in itertools.product(sets_below(3), repeat=3):
            wanted = None
            for at in range(3):
                for one in groups[:at]:
                    both = set(one) & set(groups[at])
                    if wanted is None and both not in (set(), set(one), set(groups[at])):
                        wanted = at
            classes = [(group, 1) for group in groups]
            if wanted is None:
                self.assertEqual(quotas(3, classes).sets, self.quotas_wanted(3, classes))
            else:
                self.assertEqual(self.error_of(NotNested, quotas, 3, classes).at, wanted)

    def has_no_cycle(self, edges):
        group = {node: node for edge in edges for node in edge}
        for one, other in edges:
            if group[one] == group[other]:
                return False
            old = group[one]
            group = {node: group[other] if mark == old else mark for node, mark in group.items()}
        return True

    def test_forests(self):
        chance = random.Random(6)
        cases = [
            [(0, 1), (1, 2), (0, 2)], [(0, 0)], [(0, 1), (1, 0), (0, 1)], [(2, 2), (0, 1), (1, 1)],
            [(0, 1), (1, 2), (2, 3), (3, 0), (0, 2), (1, 3)],
        ]
        cases += [
            [(chance.randrange(5), chance.randrange(5)) for _ in range(chance.randint(1, 6))] for _ in range(30)
        ]
        for edges in cases:
            wanted = held_by(len(edges), lambda held: self.has_no_cycle([edges[thing] for thing in held]))
            for passed in both_kinds(edges):
                family = forests(5, passed)
                self.assertEqual(family.size, len(edges))
                self.assertEqual(family.sets, wanted)
                self.assertIsNone(exchange_fault(family))
        far = 10 ** 30
        self.assertEqual(forests(nodes=far + 1, edges=[(0, far), (far, 0)]), uniform(2, 1))

    def independent(self, p, rows):
        for factors in itertools.product(range(p), repeat=len(rows)):
            if any(factors):
                if not any(sum(factor * row[at] for factor, row in zip(factors, rows)) % p for at in range(len(rows[0]))):
                    return False
        return True

    def test_independent_rows(self):
        chance = random.Random(7)
        cases = [
            [(1, 0), (0, 1), (1, 1), (2, 2), (0, 0)], [(10 ** 40, -1), (-(10 ** 50), 7 * 10 ** 30)], [(0,)], [(210,), (1,)],
            [(1, 2, 3, 4, 5, 6)], [(0, 0, 1), (0, 1, 0), (0, 1, 1)], [(0, 1), (0, 3), (5, 0)], [(-1, 1), (1, -1)],
        ]
        for _ in range(10):
            width = chance.randint(1, 4)
            cases.append([[chance.randint(-20, 20) for _ in range(width)] for _ in range(chance.randint(1, 4))])
        for p in (2, 3, 5, 7):
            for rows in cases:
                wanted = held_by(len(rows), lambda held: self.independent(p, [rows[thing] for thing in held]))
                for passed in both_kinds(rows):
                    before = copy.deepcopy(passed)
                    family = independent_rows(p, passed)
                    self.assertEqual(family.size, len(rows))
                    self.assertEqual(family.sets, wanted, (p, rows))
                    self.assertIsNone(exchange_fault(family))
                    self.assertEqual(passed, before)
        self.assertEqual(independent_rows(p=2, rows=[[1], [2]]).sets, ((), (0,)))

    def test_independent_rows_of_six(self):
        # The Fano plane without a point: a triple is dependent just if the bits cancel out.
        rows = [[1, 0, 0], [0, 1, 0], [0, 0, 1], [1, 1, 0], [0, 1, 1], [1, 1, 1]]
        wanted = held_by(6, lambda held: len(held) <= 3 and self.independent(2, [rows[thing] for thing in held] or [[0]]) or held == ())
        self.assertEqual(independent_rows(2, rows).sets, wanted)
        wide = [[int(row == at) for at in range(6)] for row in range(6)]
        self.assertEqual(independent_rows(7, wide), uniform(6, 6))

    def can_be_given(self, lists):
        return any(len(set(given)) == len(given) for given in itertools.product(*lists))

    def test_choices(self):
        chance = random.Random(8)
        cases = [
            [["a"], ["a"], ["b"]], [[]], [[], ["a", "b"]], [["a", "a"], ["a"]], [["x", "x", "y"], ["y", "x"], ["x", "y"]],
            [["a", "b", "c", "d", "e", "f", "g"], ["a"], ["b"]], [[""], ["", " "], [" "]],
            [["a"], ["a", "b"], ["b", "c"], ["c"], ["a", "c"]],
        ]
        for _ in range(25):
            cases.append([[chance.choice("abcde") for _ in range(chance.randint(0, 3))] for _ in range(chance.randint(1, 6))])
        for lists in cases:
            wanted = held_by(len(lists), lambda held: self.can_be_given([lists[thing] for thing in held]))
            for passed in both_kinds(lists):
                before = copy.deepcopy(passed)
                family = choices(passed)
                self.assertEqual(family.size, len(lists))
                self.assertEqual(family.sets, wanted, lists)
                self.assertIsNone(exchange_fault(family))
                self.assertEqual(passed, before)
        many = [str(number) for number in range(400)]
        self.assertEqual(choices(lists=[many, many]), uniform(2, 2))


class FromOthers(Checks):
    def test_beside(self):
        for one in (*FAMILIES[::3], *GOOD[::2]):
            for other in (*FAMILIES[::2], *GOOD):
                family = beside(one, other)
                size = one.size + other.size
                wanted = held_by(size, lambda held: (
                    tuple(thing for thing in held if thing < one.size) in one.sets
                    and tuple(thing - one.size for thing in held if thing >= one.size) in other.sets
                ))
                self.assertEqual([family.size, family.sets], [size, wanted])
                if one in GOOD and other in GOOD:
                    self.assertIsNone(exchange_fault(family))
        self.assertEqual(beside(one=uniform(1, 1), other=uniform(2, 0)).sets, ((), (0,)))

    def test_cut(self):
        for family in (*FAMILIES, *SIX):
            for most in (0, 1, 2, 3, 6, 10 ** 9):
                found = cut(family=family, most=most)
                self.assertEqual(found.size, family.size)
                self.assertEqual(found.sets, tuple(held for held in family.sets if len(held) <= most))
                if family in GOOD:
                    self.assertIsNone(exchange_fault(found))

    def test_without_and_behind(self):
        for family in (*FAMILIES, *FOURS[::5], *SIX):
            for thing in range(family.size):
                if family.size == 1:
                    continue
                others = [other for other in range(family.size) if other != thing]
                found = without(family=family, thing=thing)
                self.assertEqual(found.size, family.size - 1)
                wanted = held_by(family.size - 1, lambda held: tuple(others[at] for at in held) in family.sets)
                self.assertEqual(found.sets, wanted)
                good = exchange_fault(family) is None
                self.assertTrue(not good or exchange_fault(found) is None)
                if (thing,) in family:
                    found = behind(family=family, thing=thing)
                    wanted = held_by(
                        family.size - 1, lambda held: tuple(sorted([thing, *[others[at] for at in held]])) in family.sets,
                    )
                    self.assertEqual([found.size, found.sets], [family.size - 1, wanted])
                    self.assertTrue(not good or exchange_fault(found) is None)

    def test_turned(self):
        for family in (*GOOD, *[family for family in FOURS if exchange_fault(family) is None]):
            found = turned(family=family)
            full = family.full_sets()
            wanted = held_by(family.size, lambda held: any(not set(held) & set(top) for top in full))
            self.assertEqual([found.size, found.sets], [family.size, wanted])
            self.assertIsNone(exchange_fault(found))
            self.assertEqual(turned(found), family)
        self.assertEqual(turned(uniform(3, 1)), uniform(3, 2))
        self.assertEqual(turned(uniform(6, 0)), uniform(6, 6))

    def test_turned_without_exchange(self):
        for family in BAD:
            error = self.error_of(NoExchange, turned, family)
            self.assertEqual((error.smaller, error.larger), first_fault(family))

    def test_common(self):
        for one in FAMILIES:
            for other in FAMILIES:
                if one.size == other.size:
                    found = common(one=one, other=other)
                    self.assertEqual(found.size, one.size)
                    self.assertEqual(found.sets, held_by(one.size, lambda held: held in one.sets and held in other.sets))

    def test_nothing_changes(self):
        family = Family(3, PAIR)
        sets = family.sets
        cut(family, 1), without(family, 0), behind(family, 1), common(family, family), beside(family, family)
        family.full_sets(), family.addable([0]), family.rank([0, 1])
        self.assertIs(family.sets, sets)
        self.assertEqual(sets, PAIR)
