import copy
import random
import unittest
from fractions import Fraction

from greatestnext import fracs
from greatestnext.errors import InvalidFraction
from greatestnext.fracs import Frac, as_frac, total
from tests.interface import defined_here, parameters

HUGE = 10 ** 399 + 7
NO_INTEGERS = (True, False, None, "", "1", "1/2", [], [1], (), (1, 2), [[1], (2,)], Frac(1), Frac(1, 2))
NUMBERS = (0, 1, -1, 2, -6, 35, 9999, -9999, HUGE, -HUGE, 6 ** 500)


def pair(frac):
    return frac.num, frac.den


class Checks(unittest.TestCase):
    def assert_frac(self, frac, num, den=1):
        self.assertIs(type(frac), Frac)
        self.assertIs(type(frac.num), int)
        self.assertIs(type(frac.den), int)
        self.assertEqual(pair(frac), (num, den))

    def assert_like(self, frac, fraction):
        self.assert_frac(frac, fraction.numerator, fraction.denominator)

    def assert_invalid(self, value, function, *arguments, **names):
        with self.assertRaises(InvalidFraction) as caught:
            function(*arguments, **names)
        self.assertIs(type(caught.exception), InvalidFraction)
        self.assertIs(type(caught.exception.value), type(value))
        self.assertEqual(caught.exception.value, value)
        return caught.exception.value


class Interface(Checks):
    def test_defined_here(self):
        for name in ("Frac", "as_frac", "total"):
            self.assertTrue(defined_here(fracs, name))
        for name in ("__init__", "__add__", "__sub__", "__mul__", "__eq__", "is_below", "divided_by", "text", "read"):
            self.assertIn(name, vars(Frac))
        self.assertIsInstance(vars(Frac)["read"], staticmethod)

    def test_names_of_arguments(self):
        self.assertEqual(parameters(Frac), ["num", "den"])
        self.assertEqual(parameters(Frac.is_below), ["other"])
        self.assertEqual(parameters(Frac.divided_by), ["other"])
        self.assertEqual(parameters(Frac.text), [])
        self.assertEqual(parameters(Frac.read), ["text"])
        self.assertEqual(parameters(as_frac), ["value"])
        self.assertEqual(parameters(total), ["fracs"])


class Making(Checks):
    def test_lowest_terms(self):
        self.assert_frac(Frac(6, 4), 3, 2)
        self.assert_frac(Frac(-6, 4), -3, 2)
        self.assert_frac(Frac(6, -4), -3, 2)
        self.assert_frac(Frac(-6, -4), 3, 2)
        self.assert_frac(Frac(0, 5), 0, 1)
        self.assert_frac(Frac(0, -5), 0, 1)
        self.assert_frac(Frac(8, 4), 2, 1)
        self.assert_frac(Frac(7, 1), 7, 1)
        self.assert_frac(Frac(7, -1), -7, 1)

    def test_denominator_left_out_and_names(self):
        self.assert_frac(Frac(7), 7)
        self.assert_frac(Frac(0), 0)
        self.assert_frac(Frac(num=-7), -7)
        self.assert_frac(Frac(num=2, den=4), 1, 2)
        self.assert_frac(Frac(den=4, num=2), 1, 2)
        self.assert_frac(Frac(2, den=-4), -1, 2)

    def test_like_exact_fractions(self):
        for num in NUMBERS:
            for den in NUMBERS:
                if den != 0:
                    self.assert_like(Frac(num, den), Fraction(num, den))

    def test_denominator_zero(self):
        for num in (0, 1, -1, HUGE):
            self.assert_invalid((num, 0), Frac, num, 0)

    def test_no_integers(self):
        for value in NO_INTEGERS:
            with self.subTest(value=value):
                for kept, passed in (((value, 1), (value,)), ((value, 3), (value, 3)), ((4, value), (4, value)),
                                     ((value, 0), (value, 0)), ((value, value), (value, value))):
                    got = self.assert_invalid(kept, Frac, *passed)
                    for one, other in zip(got, kept):
                        self.assertIs(one, other)
        self.assert_invalid((None, "x"), Frac, den="x", num=None)


class Operators(Checks):
    def test_like_exact_fractions(self):
        draw = random.Random(1)
        pairs = [(draw.choice(NUMBERS), draw.choice(NUMBERS) or 1) for _ in range(40)]
        pairs += [(draw.randint(-12, 12), draw.randint(1, 12)) for _ in range(40)]
        for a in pairs:
            for b in pairs:
                one, other = Frac(*a), Frac(*b)
                x, y = Fraction(*a), Fraction(*b)
                before = (pair(one), pair(other))
                self.assert_like(one + other, x + y)
                self.assert_like(one - other, x - y)
                self.assert_like(one * other, x * y)
                self.assertIs(one == other, x == y)
                self.assertIs(one != other, x != y)
                self.assertIs(one.is_below(other), x < y)
                if y != 0:
                    self.assert_like(one.divided_by(other), x / y)
                self.assertEqual((pair(one), pair(other)), before)

    def test_with_itself(self):
        frac = Frac(2, 3)
        self.assert_frac(frac + frac, 4, 3)
        self.assert_frac(frac - frac, 0)
        self.assert_frac(frac * frac, 4, 9)
        self.assert_frac(frac.divided_by(frac), 1)
        self.assertIs(frac.is_below(frac), False)
        self.assert_frac(frac, 2, 3)

    def test_equality_with_other_kinds(self):
        for frac in (Frac(0), Frac(1), Frac(1, 2)):
            for value in (0, 1, True, False, None, "1", "1/2", (1, 1), [1, 2], (), Fraction(1, 2), pair(frac)):
                with self.subTest(frac=frac.text(), value=value):
                    self.assertIs(frac == value, False)
                    self.assertIs(value == frac, False)
                    self.assertIs(frac != value, True)

    def test_names(self):
        self.assertIs(Frac(1, 3).is_below(other=Frac(1, 2)), True)
        self.assertIs(Frac(-1, 2).is_below(other=Frac(-1, 3)), True)
        self.assert_frac(Frac(1, 3).divided_by(other=Frac(-1, 2)), -2, 3)

    def test_divided_by_what_cannot_be(self):
        zero = Frac(0, 3)
        self.assertIs(self.assert_invalid(zero, Frac(1).divided_by, zero), zero)
        for value in (0, 1, 2, True, False, None, "1", [Frac(1)], (Frac(1),), []):
            with self.subTest(value=value):
                frac = Frac(3, 4)
                self.assertIs(self.assert_invalid(value, frac.divided_by, value), value)
                self.assertIs(self.assert_invalid(value, frac.divided_by, other=value), value)
                self.assert_frac(frac, 3, 4)


class Texts(Checks):
    def test_text(self):
        for num, den, text in ((3, 1, "3"), (-1, 2, "-1/2"), (0, 7, "0"), (-3, 1, "-3"), (10, 4, "5/2"), (1, -9, "-1/9")):
            self.assertEqual(Frac(num, den).text(), text)

    def test_text_and_read_like_exact_fractions(self):
        for num in NUMBERS:
            for den in NUMBERS:
                if den != 0:
                    text = Frac(num, den).text()
                    self.assertEqual(text, str(Fraction(num, den)))
                    self.assert_like(Frac.read(text), Fraction(num, den))
                    self.assert_like(Frac.read(text=text), Fraction(num, den))

    def test_lengths_around_the_pieces(self):
        for length in (63, 64, 65, 127, 128, 129, 3999, 4000):
            for digits in ("1" + "0" * (length - 1), "9" * length, "1" * length, "1" + "0" * (length - 2) + "7"):
                frac = Frac.read(digits)
                self.assert_frac(frac, int(digits))
                self.assertEqual(frac.text(), digits)
                self.assertEqual(Frac(-1, frac.num).text(), "-1/" + digits)

    def test_lengths_that_python_itself_refuses(self):
        text = "-" + "12" * 3000
        frac = Frac.read(text)
        self.assert_frac(frac, -12 * (10 ** 6000 - 1) // 99)
        self.assertEqual(frac.text(), text)
        text = "1/" + "3" * 5000
        self.assertEqual(Frac.read(text).text(), text)

    def test_read_refuses_other_texts(self):
        wrong = (
            "", " ", "-", "/", "-/", "--1", "-0", "00", "03", "-03", "+3", " 3", "3 ", "3\n", "\n3", "3\t", "1_0",
            "3.0", ".5", "3.", "1e3", "0x3", "3/1", "-3/1", "0/1", "0/2", "-0/2", "3/0", "-3/0", "0/0", "2/4", "-6/3",
            "1/-2", "-1/-2", "1/+2", "1/02", "01/2", "1//2", "1/2/3", "/2", "1/", "1 /2", "1/ 2", "1/2 ", " 1/2",
            "1/2\n", "1/00", "- 1", "-1/", "1-", "1/2-", "None", "a", "\u0661", "\u00b2", "1/\u0662", "\uff11",
            "0" * 4000, "0" + "1" * 3999, "2" * 2000 + "/" + "2" * 1999, "3" * 3998 + "/3", "1" * 3999 + " ", "-" * 4000,
            "1" * 3998 + "/0", "-" + "0" * 3999, "1/" + "0" * 3998, "/" * 4000, "0/" + "7" * 3998,
        )
        for text in wrong:
            with self.subTest(text=text[:40]):
                self.assertIs(self.assert_invalid(text, Frac.read, text), text)

    def test_read_refuses_other_kinds(self):
        for value in (None, True, False, 0, 3, -HUGE, Frac(3), [], ["3"], ("1", "2"), [["3"]], b"3"):
            with self.subTest(value=value):
                self.assertIs(self.assert_invalid(value, Frac.read, value), value)

    def test_read_takes_what_is_written_only(self):
        signs = "-/012 "
        texts = [""]
        for _ in range(4):
            texts += [text + sign for text in texts if len(text) == len(texts[-1]) for sign in signs]
        written = [Frac(num, den).text() for num in range(-2222, 2223) for den in range(1, 23)]
        written = {text for text in written if len(text) <= 4}
        for text in texts:
            if text in written:
                self.assertEqual(Frac.read(text).text(), text)
            else:
                self.assert_invalid(text, Frac.read, text)


class Others(Checks):
    def test_as_frac(self):
        frac = Frac(-2, 3)
        self.assert_frac(as_frac(frac), -2, 3)
        self.assert_frac(frac, -2, 3)
        for number in NUMBERS:
            self.assert_frac(as_frac(number), number)
        self.assert_frac(as_frac(value=5), 5)

    def test_as_frac_refuses_other_kinds(self):
        for value in (True, False, None, "", "1", [1], (1, 2), [Frac(1)], (), Fraction(1, 2)):
            with self.subTest(value=value):
                self.assertIs(self.assert_invalid(value, as_frac, value), value)

    def test_total(self):
        parts = [Frac(1, 2), Frac(1, 3), Frac(-1, 6), Frac(HUGE)]
        before = copy.deepcopy(parts)
        self.assert_like(total(parts), Fraction(2, 3) + HUGE)
        self.assert_like(total(tuple(parts)), Fraction(2, 3) + HUGE)
        self.assert_like(total(fracs=parts[:3]), Fraction(2, 3))
        self.assertEqual(parts, before)
        self.assert_frac(total([Frac(1, 2)]), 1, 2)
        self.assert_frac(total([Frac(1, 2), Frac(-1, 2)]), 0)

    def test_total_of_none(self):
        self.assert_frac(total([]), 0)
        self.assert_frac(total(()), 0)
