"""What any value is: an integer, a list of integers, a lot."""

from kindtells.papers import fixed


def is_integer(value):
    """Whether it is an integer; True and False are none."""
    return isinstance(value, int) and not isinstance(value, bool)


def is_within(value, least, most):
    """Whether it is an integer from least to most; None is no bound."""
    if not is_integer(value):
        return False
    return (least is None or value >= least) and (most is None or value <= most)


def are_numbers(value):
    """Whether it is a list or tuple of integers, perhaps empty."""
    return isinstance(value, (list, tuple)) and all([is_integer(number) for number in value])


def is_lot(value, many):
    """Whether it is a list or tuple of ascending unlike integers from 0 to many - 1."""
    if not are_numbers(value) or not all([0 <= number < many for number in value]):
        return False
    return all([one < other for one, other in zip(value, value[1:])])


def first_twice(values):
    """The first of the values that equals one ahead of it, a list taken for a tuple; None without one."""
    if not isinstance(values, (list, tuple)):
        return None
    seen = set()
    for value in fixed(values):
        # Its writing stands for it: a tuple may be nested deeper than a set's member may be.
        written = repr(value)
        if written in seen:
            return value
        seen.add(written)
    return None
