"""Scales that do the same, and lots that part two scales."""

from onescale.bounds import MAX_ROW
from onescale.errors import TooMany
from onescale.scales import lot_sums


def scales_alike(one, other):
    """Whether the same lots go on two scales."""
    return scale_parting(one, other) is None


def scale_parting(one, other):
    """Any lot of buttons of the scales that goes on just one of both, None if there is none."""
    one_rows, one_bound = one
    other_rows, other_bound = other
    buttons = sorted(set([button for button, _ in one_rows + other_rows]))
    if len(buttons) > MAX_ROW:
        raise TooMany(MAX_ROW)
    one_sums = lot_sums(_rows_of(one_rows, buttons))
    other_sums = lot_sums(_rows_of(other_rows, buttons))
    for (lot, one_total), (_, other_total) in zip(one_sums, other_sums):
        if (one_total >= one_bound) != (other_total >= other_bound):
            return lot
    return None


def _rows_of(rows, buttons):
    """Rows of just these buttons: one that rows lack weighs nothing."""
    weights = dict(rows)
    return [(button, weights.get(button, 0)) for button in buttons]
