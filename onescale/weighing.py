"""Weights put to a tree: the least sum that goes, the greatest that fails."""

from onescale.contraries import contrary
from onescale.errors import Unfit
from onescale.helpers import is_trip, weight_sum
from onescale.scales import scale_error
from onescale.trips import buttons_of


def least_going(tree, rows):
    """The least sum of a lot of buttons of the tree that goes."""
    _check_buttons(tree, rows)
    return _least_sum(tree, dict(rows))


def greatest_failing(tree, rows):
    """The greatest sum of a lot of buttons of the tree that fails."""
    _check_buttons(tree, rows)
    # A lot fails exactly if all other buttons go in the contrary tree; so as little as can be is left to these.
    return weight_sum(rows) - _least_sum(contrary(tree), dict(rows))


def _check_buttons(tree, rows):
    """The buttons of rows have to be just those of the tree."""
    if not _has_buttons(tree, rows):
        raise Unfit()


def _has_buttons(tree, rows):
    """Whether the buttons of rows are just those of the tree."""
    return tuple([button for button, _ in rows]) == buttons_of(tree)


def _least_sum(thing, weights):
    """The least sum of a lot with which a thing goes."""
    if not is_trip(thing):
        return weights[thing]
    bound, parts = thing
    return sum(sorted([_least_sum(part, weights) for part in parts])[:bound])


def weights_hold(tree, value):
    """Whether any value is a scale of just the tree's buttons by which the same lots go."""
    if scale_error(value) is not None:
        return False
    rows, bound = value
    return _has_buttons(tree, rows) and greatest_failing(tree, rows) < bound <= least_going(tree, rows)
