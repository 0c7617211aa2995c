"""Swaps: two lots that go, and go no more when they exchange a button each."""

from onescale.helpers import first_fork, is_integer, least_button, trip_parts, with_button, without_button
from onescale.lots import goes, is_going_lot
from onescale.ranks import worse_lot
from onescale.told import told


def swap_of(tree):
    """Any swap of a tree, None if it is a nest."""
    fork = first_fork(told(tree))
    if fork is None:
        return None
    one, other = [least_button(part) for part in trip_parts(fork)[:2]]
    # Neither is no worse than the other; each lot goes with the one button, and not with the other.
    first = with_button(worse_lot(tree, other, one), one)
    second = with_button(worse_lot(tree, one, other), other)
    return (first, second, one, other)


def swap_holds(tree, value):
    """Whether any value is a swap of a tree."""
    if not isinstance(value, tuple) or len(value) != 4:
        return False
    first, second, one, other = value
    if not is_going_lot(tree, first) or not is_going_lot(tree, second):
        return False
    if not is_integer(one) or not is_integer(other):
        return False
    return _only_in(one, first, second) and _only_in(other, second, first) and not (
        goes(tree, _exchanged(first, one, other)) or goes(tree, _exchanged(second, other, one)))


def _only_in(button, lot, other):
    """Whether a button stands in a lot and not in another one."""
    return button in lot and button not in other


def _exchanged(lot, button, other):
    """The lot with another button in the place of a button."""
    return with_button(without_button(lot, button), other)
