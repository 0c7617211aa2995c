"""Shapes of nests, and the pairs of numbers that lead to them by Euclid's steps."""

from onescale.bounds import MAX_BUTTONS, MAX_DEPTH
from onescale.errors import Unfit
from onescale.helpers import pair_and_weights
from onescale.nests import levels


def shape_of(tree):
    """The shape of a nest."""
    return tuple([(bound, len(buttons)) for bound, buttons in levels(tree)])


def nest_by(shape, buttons):
    """The told tree that has a shape, with the least buttons in the outermost trip, and so on inward."""
    left = len(buttons)
    if sum([many for _, many in shape]) != left or left > MAX_BUTTONS or len(shape) > MAX_DEPTH:
        raise Unfit()
    if left == 1:
        return buttons[0]
    within = ()
    for bound, many in shape[::-1]:
        within = ((bound, buttons[left - many:left] + within),)
        left -= many
    return within[0]


def pair_of(shape):
    """The pair of the nests of a shape."""
    first_and_second, _ = pair_and_weights(shape)
    return first_and_second


def shape_weights(shape):
    """For each level of a shape the weight of its buttons."""
    _, weights = pair_and_weights(shape)
    return weights


def contrary_shape(shape):
    """The shape of the contrary trees of the nests of a shape."""
    bound, many = shape[-1]
    outer = [(own + 2 - needed, own) for needed, own in shape[:-1]]
    return tuple(outer + [(many - bound + 1, many)])


def greatest_weight(shape):
    """The greatest weight of a button in a shape."""
    return max(shape_weights(shape))


def greatest_needed(n):
    """The greatest weight of a button in any shape with n buttons."""
    weight, ahead = 1, 0
    for _ in range(n - 1):
        weight, ahead = weight + ahead, weight
    return weight


def plain_of(a, b):
    """The plain shape whose pair is (a, b)."""
    return plain_by(_steps(a, b))


def quotients(a, b):
    """The quotients of Euclid's steps from a pair to (1, 1)."""
    return tuple([quotient for _, quotient in _steps(a, b)])


def _steps(a, b):
    """For each step from a pair to (1, 1): whether it tells a one-of, and its quotient."""
    found = []
    while a != b:
        if b > a:
            quotient = (b - 1) // a
            b -= quotient * a
            found.append((True, quotient))
        else:
            quotient = (a - 1) // b
            a -= quotient * b
            found.append((False, quotient))
    # Both are now the greatest common divisor.
    if a > 1:
        raise Unfit()
    return found


def plain_by(steps):
    """The plain shape with a level for each step, the last one with a button more than its quotient."""
    if not steps:
        return ((1, 1),)
    found = [(1 if is_one_of else quotient + 1, quotient) for is_one_of, quotient in steps]
    bound, many = found[-1]
    return tuple(found[:-1] + [(bound, many + 1)])
