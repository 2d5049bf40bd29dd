"""Exact fractions of integers."""

from math import gcd

from greatestnext.errors import InvalidFraction
from greatestnext.values import is_whole


def digits_of(number):
    """Return the decimal digits of a number from 0 on."""
    # Python's own str and int refuse more than 4300 digits, so both go by 64 of them.
    parts = []
    while number >= 10 ** 64:
        number, low = divmod(number, 10 ** 64)
        parts.append(str(low).zfill(64))
    parts.append(str(number))
    return "".join(parts[::-1])


def number_of(digits):
    """Return the number with these decimal digits."""
    first = len(digits) % 64
    number = int("0" + digits[:first])
    for at in range(first, len(digits), 64):
        number = number * 10 ** 64 + int(digits[at:at + 64])
    return number


def has_digits_only(text):
    """Return whether the text is one or more of the digits 0 to 9."""
    # isdigit alone would take digits of other scripts, too.
    return text.isascii() and text.isdigit()


class Frac:
    """The fraction num / den in lowest terms, with den above 0."""

    def __init__(self, num, den=1):
        if not is_whole(num) or not is_whole(den) or den == 0:
            raise InvalidFraction((num, den))
        common = gcd(num, den)
        if den < 0:
            common = -common
        self.num = num // common
        self.den = den // common

    def __add__(self, other):
        if not isinstance(other, Frac):
            return NotImplemented
        return Frac(self.num * other.den + other.num * self.den, self.den * other.den)

    def __sub__(self, other):
        if not isinstance(other, Frac):
            return NotImplemented
        return Frac(self.num * other.den - other.num * self.den, self.den * other.den)

    def __mul__(self, other):
        if not isinstance(other, Frac):
            return NotImplemented
        return Frac(self.num * other.num, self.den * other.den)

    def __eq__(self, other):
        return isinstance(other, Frac) and self.num == other.num and self.den == other.den

    def is_below(self, other):
        """Return whether this fraction is less than the other one."""
        return self.num * other.den < other.num * self.den

    def divided_by(self, other):
        """Return this fraction divided by another one, which is not 0."""
        if not isinstance(other, Frac) or other.num == 0:
            raise InvalidFraction(other)
        return Frac(self.num * other.den, self.den * other.num)

    def text(self):
        """Return the fraction as a text: "3", "-1/2" and the like."""
        sign = "-" if self.num < 0 else ""
        above = sign + digits_of(abs(self.num))
        if self.den == 1:
            return above
        return f"{above}/{digits_of(self.den)}"

    @staticmethod
    def read(text):
        """Return the fraction whose text is exactly this one."""
        if not isinstance(text, str):
            raise InvalidFraction(text)
        above, bar, below = text.removeprefix("-").partition("/")
        if bar == "":
            below = "1"
        if not has_digits_only(above) or not has_digits_only(below):
            raise InvalidFraction(text)
        num = number_of(above)
        den = number_of(below)
        if den == 0:
            raise InvalidFraction(text)
        frac = Frac(-num if text.startswith("-") else num, den)
        # One comparison refuses -0, leading zeros, a denominator 1 and common factors.
        if frac.text() != text:
            raise InvalidFraction(text)
        return frac


def as_frac(value):
    """Return the fraction that the value is: a fraction itself, or an integer."""
    if isinstance(value, Frac):
        return value
    if not is_whole(value):
        raise InvalidFraction(value)
    return Frac(value)


def total(fracs):
    """Return the sum of the fractions, 0 for none."""
    result = Frac(0)
    for frac in fracs:
        result = result + frac
    return result


def greatest(fracs):
    """Return the greatest of one or more fractions."""
    best = fracs[0]
    for frac in fracs:
        if best.is_below(frac):
            best = frac
    return best


def ascending(fracs):
    """Return the fractions in ascending order, equal ones once."""
    ordered = []
    for frac in fracs:
        at = len([other for other in ordered if other.is_below(frac)])
        if at == len(ordered) or ordered[at] != frac:
            ordered.insert(at, frac)
    return ordered
