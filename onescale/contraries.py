"""Contrary trees."""

from onescale.helpers import is_trip


def contrary(tree):
    """The tree with each bound k of a trip of n parts turned to n - k + 1."""
    if not is_trip(tree):
        return tree
    bound, parts = tree
    return (len(parts) - bound + 1, tuple([contrary(part) for part in parts]))
