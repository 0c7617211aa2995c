"""Trees of trips and buttons: what is wrong with a value, and what stands where."""

from onescale.bounds import MAX_BUTTONS, MAX_DEPTH
from onescale.errors import NoButton, NoPart
from onescale.helpers import is_button, is_integer, is_trip


def tree_error(value):
    """None for a tree, otherwise the least way to a fault with its word, or "many"."""
    return error_in(value, False)


def error_in(value, lets_gaps):
    """What tree_error tells of a value; where gaps are let, None may stand in it for bounds."""
    seen = {}
    fault = _first_fault(value, (), seen, lets_gaps)
    if fault is None and len(seen) > MAX_BUTTONS:
        return "many"
    return fault


def _first_fault(thing, way, seen, lets_gaps):
    """The pair of the least way from thing on to a fault and its word; seen gets the buttons."""
    word = _fault_word(thing, way, seen, lets_gaps)
    if word is not None:
        return (way, word)
    if is_integer(thing):
        seen[thing] = True
        return None
    for place, part in enumerate(thing[1]):
        fault = _first_fault(part, way + (place,), seen, lets_gaps)
        if fault is not None:
            return fault
    return None


def _fault_word(thing, way, seen, lets_gaps):
    """The first word that applies to thing itself, None if there is none."""
    if len(way) > MAX_DEPTH:
        return "deep"
    if is_button(thing):
        return "twice" if thing in seen else None
    if not _has_trip_form(thing, lets_gaps):
        return "form"
    bound, parts = thing
    return None if bound is None or 1 <= bound <= len(parts) else "bound"


def _has_trip_form(value, lets_gaps):
    """Whether value is a pair of an integer, or None where gaps are let, and a tuple of 1 to MAX_BUTTONS items."""
    if not isinstance(value, tuple) or len(value) != 2:
        return False
    bound, parts = value
    if not is_integer(bound) and not (lets_gaps and bound is None):
        return False
    return isinstance(parts, tuple) and 1 <= len(parts) <= MAX_BUTTONS


def buttons_of(tree):
    """The ascending tuple of the buttons of a tree."""
    if not is_trip(tree):
        return (tree,)
    found = []
    for part in tree[1]:
        found.extend(buttons_of(part))
    return tuple(sorted(found))


def ways(tree):
    """The ascending tuple of the ways of a tree."""
    found = [()]
    if is_trip(tree):
        for place, part in enumerate(tree[1]):
            found.extend([(place,) + way for way in ways(part)])
    return tuple(found)


def part_at(tree, value):
    """The button or trip to which the way value leads."""
    if not isinstance(value, tuple):
        raise NoPart(value)
    thing = tree
    for place in value:
        if not is_trip(thing) or not is_integer(place) or not 0 <= place < len(thing[1]):
            raise NoPart(value)
        thing = thing[1][place]
    return thing


def way_to(tree, value):
    """The way that leads to the button value."""
    way = _way_from(tree, value) if is_integer(value) else None
    if way is None:
        raise NoButton(value)
    return way


def _way_from(thing, button):
    """The way from thing on that leads to a button, None if none does."""
    if not is_trip(thing):
        return () if thing == button else None
    for place, part in enumerate(thing[1]):
        way = _way_from(part, button)
        if way is not None:
            return (place,) + way
    return None


def depth_of(tree):
    """The most places that a way of the tree has."""
    return max([len(way) for way in ways(tree)])
