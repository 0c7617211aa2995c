"""Nests: trees that one scale can stand for, and the scale of the least weights."""

from onescale.errors import NoNest
from onescale.helpers import first_fork, is_trip, pair_and_weights, trip_parts
from onescale.swaps import swap_of
from onescale.told import told
from onescale.trips import part_at, ways


def is_nest(tree):
    """Whether in no trip of the told tree two parts are trips."""
    return first_fork(told(tree)) is None


def fork(tree):
    """The way, in the told tree, of the first trip of which two parts are trips, None if there is none."""
    tree = told(tree)
    for way in ways(tree):
        part = part_at(tree, way)
        if is_trip(part) and len(trip_parts(part)) > 1:
            return way
    return None


def levels(tree):
    """For each trip of a nest's told tree, the outermost first: its bound, and the buttons that are its own parts."""
    swap = swap_of(tree)
    if swap is not None:
        raise NoNest(swap)
    thing = told(tree)
    if not is_trip(thing):
        return ((1, (thing,)),)
    found = []
    while thing is not None:
        bound, parts = thing
        found.append((bound, tuple([part for part in parts if not is_trip(part)])))
        within = trip_parts(thing)
        thing = within[0] if within else None
    return tuple(found)


def pair(tree):
    """The pair of a nest: the bound of its least scale, and how much of the weights, kept back, stops it."""
    first_and_second, _ = pair_and_weights(_shape_by(levels(tree)))
    return first_and_second


def scale_of(tree):
    """The scale of the least weights that does what a nest does."""
    rows = levels(tree)
    (bound, _), weights = pair_and_weights(_shape_by(rows))
    weighed = [(button, weight) for (_, buttons), weight in zip(rows, weights) for button in buttons]
    return (tuple(sorted(weighed)), bound)


def _shape_by(rows):
    """The levels of a nest with the number of their buttons in the place of these."""
    return tuple([(bound, len(buttons)) for bound, buttons in rows])
