"""Frames: trees in which bounds may lack; and books of what was seen to go or to fail."""

from onescale.bounds import MAX_LINES
from onescale.errors import Unfit
from onescale.helpers import is_integer, is_trip, trips_in
from onescale.lots import lot_error
from onescale.trips import error_in, part_at, ways


def frame_error(value):
    """None for a frame, otherwise the least way to a fault with its word, or "many"."""
    return error_in(value, True)


def gaps(frame):
    """The ways of all trips without a bound, in order."""
    return tuple([way for way in ways(frame) if _is_gap(part_at(frame, way))])


def _is_gap(thing):
    """Whether something that stands in a frame is a trip without a bound."""
    return is_trip(thing) and thing[0] is None


def gap_sizes(frame):
    """How many parts each gap has, in order."""
    return [len(trip[1]) for trip in trips_in(frame) if _is_gap(trip)]


def filled(frame, bounds):
    """The tree that a filling makes of a frame."""
    sizes = gap_sizes(frame)
    if len(bounds) != len(sizes):
        raise Unfit()
    if [bound for bound, size in zip(bounds, sizes) if not is_integer(bound) or not 1 <= bound <= size]:
        raise Unfit()
    tree, _ = _filled_from(frame, bounds)
    return tree


def _filled_from(thing, bounds):
    """A thing with the first of these bounds in its gaps, and the bounds that are left."""
    if not is_trip(thing):
        return thing, bounds
    bound, parts = thing
    rest = bounds
    if bound is None:
        bound, rest = rest[0], rest[1:]
    made = ()
    for part in parts:
        inner, rest = _filled_from(part, rest)
        made = made + (inner,)
    return (bound, made), rest


def book_error(value):
    """None for a book, otherwise the first thing that is wrong."""
    if not isinstance(value, tuple) or len(value) > MAX_LINES:
        return "form"
    for place, item in enumerate(value):
        if not _is_line(item):
            return ("line", place)
    return None


def _is_line(value):
    """Whether any value is a pair of a lot and a bool."""
    if not isinstance(value, tuple) or len(value) != 2:
        return False
    lot, went = value
    return lot_error(lot) is None and isinstance(went, bool)
