"""Lots that part two trees."""

from onescale.stuck import left
from onescale.told import told
from onescale.trips import buttons_of


def parting_lot(one, other):
    """Any lot of buttons of the trees with which just one of both goes, None if they are alike."""
    one_left, other_left = told(one), told(other)
    if _same(one_left, other_left):
        return None
    lot = ()
    for button in sorted(set(buttons_of(one) + buttons_of(other))):
        one_on, other_on = _left_of(one_left, (button,), ()), _left_of(other_left, (button,), ())
        if _same(one_on, other_on):
            # As some lot parts the trees, and none with this button does, one without it does.
            one_left, other_left = _left_of(one_left, (), (button,)), _left_of(other_left, (), (button,))
        else:
            lot = lot + (button,)
            one_left, other_left = one_on, other_on
    return lot


def _left_of(thing, on, off):
    """What is left of a tree, or of one that is settled already."""
    return thing if isinstance(thing, bool) else left(thing, on, off)


def _same(one, other):
    """Whether two trees are left alike; as buttons 1 and 0 equal True and False, these are told apart."""
    return isinstance(one, bool) == isinstance(other, bool) and one == other
