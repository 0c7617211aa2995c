"""Trees built back from the lots that are their least ones."""

from onescale.bounds import MAX_LOTS, MAX_ROW
from onescale.errors import NoTree
from onescale.helpers import numbers_met, place_classes
from onescale.lots import lot_error
from onescale.told import told


def lots_error(value):
    """None for a family, otherwise the first thing that is wrong."""
    if not isinstance(value, tuple) or not 1 <= len(value) <= MAX_LOTS:
        return "form"
    for place, item in enumerate(value):
        if lot_error(item) is not None or not item:
            return ("lot", place)
    for place in range(1, len(value)):
        if value[place] <= value[place - 1]:
            return ("order", place)
    within = _first_within(value)
    if within is not None:
        return within
    return "many" if len(_buttons_in(value)) > MAX_ROW else None


def _first_within(lots):
    """The word "within" with the first lot that is within another one and with the first such one, or None."""
    masks = [sum([1 << button for button in lot]) for lot in lots]
    for place, mask in enumerate(masks):
        for other, mask_around in enumerate(masks):
            if place != other and mask & mask_around == mask:
                return ("within", place, other)
    return None


def _buttons_in(lots):
    """The ascending list of the buttons of all lots."""
    return sorted(set([button for lot in lots for button in lot]))


def tree_of(lots):
    """The told tree whose least lots are just those of a family."""
    parts = put_together(lots)
    if len(parts) > 1:
        raise NoTree(("stuck", parts))
    return parts[0]


def put_together(lots):
    """The told trees, by their least buttons, that buttons come together to, trip by trip; one if a tree is of lots."""
    parts = tuple(_buttons_in(lots))
    # The family with parts for buttons: of each lot the places of its parts, as a number with a bit for each.
    masks = [sum([1 << parts.index(button) for button in lot]) for lot in lots]
    while len(parts) > 1:
        places = _one_trip(masks, len(parts))
        if places is None:
            return parts
        parts, masks = _with_trip(parts, masks, places)
    return parts


def _one_trip(masks, many):
    """The first class of two places or more that is met in one number, None if there is none."""
    for places in place_classes(masks, many):
        if len(places) > 1 and len(numbers_met(masks, places)) == 1:
            return places
    return None


def _with_trip(parts, masks, places):
    """The parts and the family in which a class of places is one trip, at the first of these places."""
    # Parts of the class can be all-of as the new trip is, or one-of as it is; told makes one of both.
    trip = told((numbers_met(masks, places)[0], tuple([parts[place] for place in places])))
    kept = [place for place in range(len(parts)) if place not in places[1:]]
    taken = [trip if place == places[0] else parts[place] for place in kept]
    class_mask = sum([1 << place for place in places])
    found = []
    for mask in masks:
        fewer = 0
        for place, old in enumerate(kept):
            met = mask & class_mask if old == places[0] else mask & (1 << old)
            fewer += 1 << place if met else 0
        found.append(fewer)
    return tuple(taken), sorted(set(found))
