"""Scales: weights of buttons, and the bound that they have to come up to."""

from onescale.bounds import MAX_BUTTONS, MAX_LOTS, MAX_ROW, MAX_WEIGHT
from onescale.errors import TooMany
from onescale.helpers import is_button, is_integer, weight_sum


def scale_error(value):
    """None for a scale, otherwise the first thing that is wrong."""
    if not _has_scale_form(value):
        return "form"
    rows, bound = value
    for place, row in enumerate(rows):
        if not _is_row(row):
            return ("row", place)
    for place in range(1, len(rows)):
        if rows[place][0] <= rows[place - 1][0]:
            return ("order", place)
    return None if 1 <= bound <= weight_sum(rows) else "bound"


def _has_scale_form(value):
    """Whether value is a pair of a tuple of 1 to MAX_BUTTONS items and an integer."""
    if not isinstance(value, tuple) or len(value) != 2:
        return False
    rows, bound = value
    return isinstance(rows, tuple) and 1 <= len(rows) <= MAX_BUTTONS and is_integer(bound)


def _is_row(value):
    """Whether value is a pair of a button and a weight."""
    if not isinstance(value, tuple) or len(value) != 2:
        return False
    button, weight = value
    return is_button(button) and is_integer(weight) and 0 <= weight <= MAX_WEIGHT


def scale_goes(scale, lot):
    """Whether a lot goes on a scale."""
    rows, bound = scale
    return weight_sum([row for row in rows if row[0] in lot]) >= bound


def scale_contrary(scale):
    """The scale on which a lot of its buttons goes exactly if all its other buttons fail on this one."""
    rows, bound = scale
    return (rows, weight_sum(rows) - bound + 1)


def idle(scale):
    """The ascending tuple of the buttons without which no lot fails that goes with them."""
    rows, bound = scale
    _check_row(rows)
    found = []
    for button, weight in rows:
        others = [row for row in rows if row[0] != button]
        if not [total for _, total in lot_sums(others) if bound - weight <= total < bound]:
            found.append(button)
    return tuple(found)


def scale_lots(scale):
    """The ascending tuple of the least lots of a scale."""
    rows, bound = scale
    _check_row(rows)
    weights = dict(rows)
    going = [(lot, total) for lot, total in lot_sums(rows) if total >= bound]
    # Where a lot fails without its lightest button it fails without each other one.
    found = [lot for lot, total in going if total - min([weights[button] for button in lot]) < bound]
    if len(found) > MAX_LOTS:
        raise TooMany(MAX_LOTS)
    return tuple(sorted(found))


def _check_row(rows):
    """All lots of the buttons are gone through, so these must not be too many."""
    if len(rows) > MAX_ROW:
        raise TooMany(MAX_ROW)


def lot_sums(rows):
    """The pairs of each lot of the buttons of rows and of its sum; in the same order for rows of the same buttons."""
    found = [((), 0)]
    for button, weight in rows:
        found = found + [(lot + (button,), total + weight) for lot, total in found]
    return found
