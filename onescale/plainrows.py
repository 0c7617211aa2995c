"""The plain shapes with so many buttons, in a row by their pairs as fractions."""

from math import gcd

from onescale.errors import Unfit
from onescale.euclid import plain_by
from onescale.helpers import is_integer


def plain_count(n):
    """How many plain shapes have n buttons."""
    return 1 << (n - 1)


def plain_at(n, value):
    """The plain shape with n buttons that has the number value."""
    if not is_integer(value) or not 0 <= value < plain_count(n):
        raise Unfit()
    # In binary a number has a sign for each button but the last one: 0 in a one-of, 1 in an all-of.
    runs = []
    for place in range(n - 2, -1, -1):
        is_one_of = ((value >> place) & 1) == 0
        if runs and runs[-1][0] == is_one_of:
            runs[-1] = (is_one_of, runs[-1][1] + 1)
        else:
            runs.append((is_one_of, 1))
    return plain_by(runs)


def plain_number(shape):
    """The number of a plain shape among those with as many buttons."""
    number = 0
    for bound, many in shape:
        for _ in range(many):
            number = 2 * number + (0 if bound == 1 else 1)
    # The last button has no sign.
    return number // 2


def with_sum(total):
    """The ascending pairs of the plain shapes whose weights sum to total."""
    return tuple([(a, total + 1 - a) for a in range(1, total + 1) if gcd(a, total + 1 - a) == 1])
