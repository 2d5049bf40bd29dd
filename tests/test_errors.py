import unittest

from greatestnext import errors
from greatestnext.fracs import Frac
from tests.interface import defined_here, parameters

NAMES = {
    "InvalidFraction": ("value",),
    "InvalidProject": ("state",),
    "Endless": ("state",),
    "InvalidFamily": ("at",),
    "NotClosed": ("missing",),
    "NotNested": ("at",),
    "NoExchange": ("smaller", "larger"),
    "WrongSize": ("many",),
    "InvalidStanding": ("value",),
    "InvalidDeed": ("deed",),
    "InvalidPlan": ("plan",),
    "NoEnd": ("thing",),
    "InvalidCertificate": ("value",),
    "TooMany": ("what",),
    "InvalidText": ("value", "line"),
    "NothingToUndo": ("what",),
}


def nested(depth):
    value = [depth]
    for level in range(depth):
        value = [value, "x"] if level % 2 else (value, None)
    return value


VALUES = (
    None, True, False, 0, 1, -7, 10 ** 399, -(10 ** 399), "", "text", "two\nlines", "\u00e9",
    [], (), [1, 2], (1, 2), [(1, [2])], ([1], (2, [None])), ("end", [True]), nested(9), list(range(400)),
)


class Errors(unittest.TestCase):
    def assert_same(self, kept, passed):
        self.assertIs(kept, passed)

    def made(self, name, values):
        return getattr(errors, name)(*values)

    def test_there_are_sixteen(self):
        self.assertEqual(len(NAMES), 16)
        found = [name for name, thing in vars(errors).items()
                 if isinstance(thing, type) and issubclass(thing, errors.NextError)]
        self.assertEqual(sorted(found), sorted([*NAMES, "NextError"]))

    def test_defined_here_with_these_arguments(self):
        self.assertTrue(defined_here(errors, "NextError"))
        self.assertEqual(errors.NextError.__bases__, (ValueError,))
        for name, arguments in NAMES.items():
            with self.subTest(name=name):
                self.assertTrue(defined_here(errors, name))
                self.assertEqual(getattr(errors, name).__bases__, (errors.NextError,))
                self.assertEqual(tuple(parameters(getattr(errors, name))), arguments)

    def test_each_is_none_of_the_others(self):
        for name, arguments in NAMES.items():
            error = self.made(name, range(len(arguments)))
            self.assertIsInstance(error, ValueError)
            self.assertIsInstance(error, errors.NextError)
            for other in NAMES:
                with self.subTest(name=name, other=other):
                    self.assertEqual(isinstance(error, getattr(errors, other)), name == other)

    def test_by_position_and_by_name(self):
        for name, arguments in NAMES.items():
            for value in VALUES:
                values = [value, (value,)][:len(arguments)]
                with self.subTest(name=name, value=value):
                    by_place = self.made(name, values)
                    by_name = getattr(errors, name)(**dict(zip(arguments, values)))
                    for argument, passed in zip(arguments, values):
                        self.assert_same(getattr(by_place, argument), passed)
                        self.assert_same(getattr(by_name, argument), passed)
                    self.assertEqual(sorted(vars(by_place)), sorted(arguments))

    def test_two_arguments_in_any_order_of_names(self):
        error = errors.InvalidText(line=3, value=["x"])
        self.assertEqual((error.value, error.line), (["x"], 3))
        error = errors.NoExchange(larger=(0, 1), smaller=(2,))
        self.assertEqual((error.smaller, error.larger), ((2,), (0, 1)))

    def test_fractions_are_kept(self):
        for value in (Frac(1, 2), [Frac(3)], ("end", (Frac(-1), [Frac(0)]))):
            self.assert_same(errors.InvalidDeed(value).deed, value)

    def test_later_changes_show(self):
        value = [[1], 2]
        error = errors.InvalidPlan(value)
        value[0].append(3)
        self.assertEqual(error.plan, [[1, 3], 2])

    def test_wrong_numbers_of_arguments(self):
        for name, arguments in NAMES.items():
            with self.subTest(name=name):
                self.assertRaises(TypeError, getattr(errors, name), *range(len(arguments) - 1))
                self.assertRaises(TypeError, getattr(errors, name), *range(len(arguments) + 1))

    def test_caught_as_the_base(self):
        for name, arguments in NAMES.items():
            values = [["list"], 5][:len(arguments)]
            for base in (errors.NextError, ValueError, getattr(errors, name)):
                with self.subTest(name=name, base=base):
                    try:
                        raise self.made(name, values)
                    except base as error:
                        kept = [getattr(error, argument) for argument in arguments]
                    self.assertEqual(kept, values)
                    self.assert_same(kept[0], values[0])

    def test_a_second_error_does_not_change_the_first(self):
        for name, arguments in NAMES.items():
            with self.subTest(name=name):
                first = self.made(name, ["a", "b"][:len(arguments)])
                second = self.made(name, ["c", "d"][:len(arguments)])
                self.assertEqual([getattr(first, at) for at in arguments], ["a", "b"][:len(arguments)])
                self.assertEqual([getattr(second, at) for at in arguments], ["c", "d"][:len(arguments)])
