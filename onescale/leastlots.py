"""Least lots: those that go, and fail with any one button less."""

from onescale.bounds import MAX_LOTS
from onescale.errors import TooMany, Unfit
from onescale.helpers import is_trip, without_button
from onescale.leastcounts import least_count
from onescale.lots import goes


def least_lots(tree):
    """The ascending tuple of all least lots of a tree."""
    if least_count(tree, (), ()) > MAX_LOTS:
        raise TooMany(MAX_LOTS)
    return tuple(sorted([tuple(sorted(lot)) for lot in _lots_of(tree)]))


def _lots_of(thing):
    """The least lots of a thing, their buttons in the order of the parts."""
    if not is_trip(thing):
        return [(thing,)]
    bound, parts = thing
    # Item j: what is put together of a least lot each of j of the parts so far.
    found = [[()]] + [[] for _ in range(bound)]
    for place, part in enumerate(parts):
        own = _lots_of(part)
        # Only what can still become a lot is kept, so there are never more than at the end.
        lowest = max(1, bound - (len(parts) - place - 1))
        for chosen in range(bound, lowest - 1, -1):
            found[chosen] = found[chosen] + [lot + more for lot in found[chosen - 1] for more in own]
    return found[bound]


def is_least(tree, lot):
    """Whether a lot is one of the least lots of a tree."""
    return goes(tree, lot) and not [button for button in lot if goes(tree, without_button(lot, button))]


def thinned(tree, lot):
    """What is left of a lot that goes when its buttons, from the greatest on, are taken out where it still goes."""
    if not goes(tree, lot):
        raise Unfit()
    kept = lot
    for button in lot[::-1]:
        fewer = without_button(kept, button)
        if goes(tree, fewer):
            kept = fewer
    return kept
