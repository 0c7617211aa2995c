"""Lots of buttons, and what goes with them."""

from onescale.bounds import MAX_LOT
from onescale.helpers import is_button, is_trip
from onescale.trips import buttons_of


def lot_error(value):
    """None for a lot, otherwise the first thing that is wrong."""
    if not isinstance(value, tuple) or len(value) > MAX_LOT:
        return "form"
    for place, item in enumerate(value):
        if not is_button(item):
            return ("button", place)
    for place in range(1, len(value)):
        if value[place] <= value[place - 1]:
            return ("order", place)
    return None


def goes(tree, lot):
    """Whether a tree goes with a lot."""
    if not is_trip(tree):
        return tree in lot
    bound, parts = tree
    return len([part for part in parts if goes(part, lot)]) >= bound


def going_ways(tree, lot):
    """The ascending tuple of the ways that lead to what goes with the lot."""
    return tuple([way for way, _, does in _states(tree, lot) if does])


def counts(tree, lot):
    """For each trip, by ascending ways: its way, and how many of its parts go with the lot."""
    return tuple([(way, number) for way, number, _ in _states(tree, lot) if number is not None])


def _states(thing, lot):
    """For each way from thing on, in order: the way, how many parts go (None for a button), whether it goes."""
    if not is_trip(thing):
        return [((), None, thing in lot)]
    bound, parts = thing
    number = 0
    within = []
    for place, part in enumerate(parts):
        rows = _states(part, lot)
        if rows[0][2]:
            number += 1
        within.extend([((place,) + way, many, does) for way, many, does in rows])
    return [((), number, number >= bound)] + within


def is_lot_of(tree, value):
    """Whether any value is a lot of buttons of the tree."""
    if lot_error(value) is not None:
        return False
    buttons = buttons_of(tree)
    return not [button for button in value if button not in buttons]


def is_going_lot(tree, value):
    """Whether any value is a lot of buttons of the tree that goes."""
    return is_lot_of(tree, value) and goes(tree, value)
