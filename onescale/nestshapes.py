"""The shapes of nests: how many there are, how many nests they have, and which one has which number."""

from math import comb

from onescale.errors import Unfit
from onescale.helpers import is_integer


def nest_shapes(n):
    """How many shapes have n buttons."""
    return _counts_to(n, False)[n][0]


def nest_count(n):
    """How many told trees with just the buttons 0, 1, .., n - 1 are nests."""
    return _counts_to(n, True)[n][0]


def _counts_to(n, dealt):
    """For 0 to n buttons how many shapes there are, and how many of them whose outermost level is one-of (as many
    as are all-of there, by their contraries); where dealt each counts once for each way to deal its buttons out."""
    found = [(0, 0), (1, 1)]
    for many in range(2, n + 1):
        total, one_ofs = many, 1
        for own in range(1, many - 1):
            ways = comb(many, own) if dealt else 1
            within, within_one_ofs = found[many - own]
            total += ways * ((own - 1) * within + 2 * (within - within_one_ofs))
            one_ofs += ways * (within - within_one_ofs)
        found.append((total, one_ofs))
    return found


def nest_at(n, value):
    """The shape with n buttons that has the number value."""
    counts = _counts_to(n, False)
    if not is_integer(value) or not 0 <= value < counts[n][0]:
        raise Unfit()
    shape = ()
    left, rest = n, value
    while left > 0:
        choices = _choices(shape, left, counts)
        while rest >= choices[0][1]:
            rest -= choices[0][1]
            choices = choices[1:]
        level, _ = choices[0]
        shape = shape + (level,)
        left -= level[1]
    return shape


def nest_number(shape):
    """The number of a shape among those with as many buttons."""
    left = sum([many for _, many in shape])
    counts = _counts_to(left, False)
    number = 0
    for place, level in enumerate(shape):
        number += sum([many for other, many in _choices(shape[:place], left, counts) if other < level])
        left -= level[1]
    return number


def _choices(outer, left, counts):
    """The ascending levels that can stand within outer ones, of buttons that are left: each with how many shapes
    begin with it."""
    found = []
    for bound in range(1, left + 1):
        for many in range(1, left + 1):
            number = _shapes_behind(bound, many, left - many, counts)
            if number > 0 and not (outer and _are_one_kind(outer[-1], (bound, many), left == many)):
                found.append(((bound, many), number))
    return found


def _shapes_behind(bound, many, within, counts):
    """How many shapes begin with a level and have so many buttons within it; no bound is above all of these."""
    if within == 0:
        return 1
    if within == 1 or bound > many + 1:
        return 0
    total, one_ofs = counts[within]
    return total - one_ofs if bound in (1, many + 1) else total


def _are_one_kind(outer, level, is_last):
    """Whether a level and the one around it are both one-of, or both all-of."""
    bound, many = level
    if outer[0] == 1:
        return bound == 1
    return outer[0] == outer[1] + 1 and bound == (many if is_last else many + 1)


def own_contrary(n):
    """How many shapes with n buttons are their own contrary shape."""
    if n % 2 == 0:
        return 0
    # The last level has an odd number of buttons, three or more, each other one an even number; the bounds are then
    # in the middle. So half of all buttons but one are cut into pieces anyhow.
    return 1 if n == 1 else 1 << (n // 2 - 1)
