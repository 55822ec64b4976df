"""What several tests need: wrong values, and a test case that holds errors against their fields."""

import unittest


class Odd:
    """A value of a class of its own."""


class Alike:
    """A value that says it equals every other one."""

    def __eq__(self, other):
        return True


# Values that are no integers.
NOT_INTEGERS = (
    True, False, None, "", "1", "abc", b"1", 1.0, 0.5, (), [], (1,), [1], [[1]], {}, {1: 1}, {1}, Odd(), Odd,
    Alike(), len)
NOT_LISTS = (None, True, False, 0, 7, -1, 1.5, "", "01", "0 1", b"01", {}, {0: 1}, {0, 1}, range(2), Odd(), Odd)
GREAT = 10 ** 59


def outside(least, most):
    """Numbers out of bounds."""
    return (least - 1, most + 1, -GREAT, GREAT)


def not_within(least, most):
    """Values that are no integer from least to most."""
    return NOT_INTEGERS + outside(least, most)


class Case(unittest.TestCase):
    def raises(self, error, call, *args, **named):
        """The call must raise just such an error: of this very class, with fields that are alike."""
        try:
            value = call(*args, **named)
        except Exception as caught:
            self.assertIs(type(caught), type(error), f"{caught!r} for {args!r} {named!r}")
            self.assertEqual(vars(caught), vars(error), f"{args!r} {named!r}")
            for name, field in vars(error).items():
                self.assertIs(type(vars(caught)[name]), type(field), f"{args!r} {named!r}")
        else:
            self.fail(f"{value!r} and no error for {args!r} {named!r}")

    def all_equal(self, values):
        values = list(values)
        for value in values:
            self.assertEqual(value, values[0])
            self.assertFalse(value != values[0])

    def all_unlike(self, values):
        values = list(values)
        for at, value in enumerate(values):
            for other in values[:at]:
                self.assertFalse(value == other, (value, other))
                self.assertTrue(value != other, (value, other))
