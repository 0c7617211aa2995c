"""Told trees: of all trees that do the same, the one that is written in the plainest way."""

from onescale.helpers import is_trip, least_button


def told(tree):
    """The told tree that is alike to a tree."""
    if not is_trip(tree):
        return tree
    bound, parts = tree
    inner = [told(part) for part in parts]
    if len(inner) == 1:
        return inner[0]
    word = _trip_word(bound, len(inner))
    spread = []
    for part in inner:
        if word != "some-of" and is_trip(part) and _trip_word(part[0], len(part[1])) == word:
            spread.extend(part[1])
        else:
            spread.append(part)
    if word == "all-of":
        bound = len(spread)
    return (bound, tuple(sorted(spread, key=least_button)))


def _trip_word(bound, many):
    """What a trip with this bound and so many parts, two or more, is called."""
    if bound == 1:
        return "one-of"
    return "all-of" if bound == many else "some-of"


def is_told(tree):
    """Whether a tree is told."""
    return told(tree) == tree


def alike(one, other):
    """Whether just the same lots go with two trees."""
    return told(one) == told(other)
