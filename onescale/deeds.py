"""Deeds on trees: each tells another tree, and leaves what it was handed as it was."""

from onescale.bounds import MAX_BUTTONS
from onescale.errors import NoPart, Taken, TooMany, Unfit
from onescale.helpers import is_button, is_integer, is_trip
from onescale.trips import buttons_of, part_at, way_to


def put(tree, way, button):
    """The tree with a button as the last part of the trip at a way."""
    bound, parts = _trip_at(tree, way)
    _check_button(button)
    buttons = buttons_of(tree)
    if button in buttons:
        raise Taken(button)
    if len(buttons) == MAX_BUTTONS:
        raise TooMany(MAX_BUTTONS)
    return _with_part(tree, way, (bound, parts + (button,)))


def taken_out(tree, button):
    """The tree without a button, and without the trips that are left without parts."""
    _check_button(button)
    way = way_to(tree, button)
    if buttons_of(tree) == (button,):
        raise Unfit()
    # A trip of which this is all goes with it.
    while len(part_at(tree, way[:-1])[1]) == 1:
        way = way[:-1]
    around, place = way[:-1], way[-1]
    bound, parts = part_at(tree, around)
    rest = parts[:place] + parts[place + 1:]
    return _with_part(tree, around, (min(bound, len(rest)), rest))


def bounded(tree, way, k):
    """The tree with the bound k for the trip at a way."""
    _, parts = _trip_at(tree, way)
    if not is_integer(k) or not 1 <= k <= len(parts):
        raise Unfit()
    return _with_part(tree, way, (k, parts))


def dissolved(tree, way):
    """The tree with the parts of the trip at a way in the place of this trip."""
    _, inner = _trip_at(tree, way)
    if way == ():
        raise NoPart(way)
    around, place = way[:-1], way[-1]
    bound, parts = part_at(tree, around)
    return _with_part(tree, around, (bound, parts[:place] + inner + parts[place + 1:]))


def as_one(tree, way, button):
    """The tree with a button in the place of the part at a way."""
    part = part_at(tree, way)
    _check_button(button)
    if button in buttons_of(tree) and button not in buttons_of(part):
        raise Taken(button)
    return _with_part(tree, way, button)


def exchanged(tree, one, other):
    """The tree with each of two buttons where the other one stood."""
    _check_button(one)
    _check_button(other)
    way, other_way = way_to(tree, one), way_to(tree, other)
    return _with_part(_with_part(tree, way, other), other_way, one)


def _trip_at(tree, way):
    """The trip to which a way leads."""
    thing = part_at(tree, way)
    if not is_trip(thing):
        raise NoPart(way)
    return thing


def _check_button(value):
    """Any value has to be a button."""
    if not is_button(value):
        raise Unfit()


def _with_part(tree, way, made):
    """The tree with another thing at a way."""
    if way == ():
        return made
    bound, parts = tree
    place = way[0]
    return (bound, parts[:place] + (_with_part(parts[place], way[1:], made),) + parts[place + 1:])
