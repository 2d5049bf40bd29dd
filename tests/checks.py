"""What several tests check of returned values and of errors."""

import unittest


def deep_list(value):
    """Return the value with a list for each list and tuple."""
    if isinstance(value, (list, tuple)):
        return [deep_list(part) for part in value]
    return value


def deep_tuple(value):
    """Return the value with a tuple for each list and tuple."""
    if isinstance(value, (list, tuple)):
        return tuple(deep_tuple(part) for part in value)
    return value


def both_kinds(value):
    """Return the value as lists and as tuples."""
    return (deep_list(value), deep_tuple(value))


class Checks(unittest.TestCase):
    def error_of(self, kind, function, *arguments, **named):
        """Return the error of exactly this kind that the call raises."""
        with self.assertRaises(kind) as caught:
            function(*arguments, **named)
        self.assertIs(type(caught.exception), kind)
        return caught.exception

    def assert_keeps(self, error, name, value):
        """Check that the error keeps the very value in its attribute."""
        kept = getattr(error, name)
        self.assertIs(type(kept), type(value))
        self.assertEqual(kept, value)

    def assert_tuples(self, value):
        """Check that there is no list in the value, also inside."""
        self.assertNotIsInstance(value, list)
        if isinstance(value, tuple):
            for part in value:
                self.assert_tuples(part)
