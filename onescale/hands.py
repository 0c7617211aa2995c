"""Hands: trips of a told tree turned to buttons, so that few buttons are lost and a nest is left."""

from onescale.errors import NoPart
from onescale.helpers import first_fork, is_integer, is_trip, least_button
from onescale.told import told
from onescale.trips import buttons_of, part_at


def fewest_lost(tree):
    """The least number of buttons that hands which do lose, and any such hands that lose so many."""
    lost, hands = _fewest_from(told(tree), ())
    return (lost, tuple(sorted(hands)))


def _fewest_from(thing, way):
    """The least number of buttons lost by hands in a thing that leave a nest of it, and any such hands."""
    places = [place for place, part in enumerate(thing[1]) if is_trip(part)] if is_trip(thing) else []
    if not places:
        return 0, []
    losses = {place: _loss(thing[1][place]) for place in places}
    choices = []
    # Of the parts that are trips one stays, and all others are turned.
    for stays in places:
        lost, hands = _fewest_from(thing[1][stays], way + (stays,))
        for place in places:
            if place != stays:
                lost += losses[place]
                hands = hands + [way + (place,)]
        choices.append((lost, hands))
    return min(choices)


def _loss(trip):
    """How many buttons are lost when a trip is turned to one."""
    return len(buttons_of(trip)) - 1


def hands_hold(tree, value):
    """Whether any value is the least number of buttons that hands which do lose, with hands that lose so many."""
    if not isinstance(value, tuple) or len(value) != 2:
        return False
    lost, hands = value
    least, _ = fewest_lost(tree)
    if not is_integer(lost) or lost != least or not isinstance(hands, tuple):
        return False
    plain = told(tree)
    if [way for way in hands if not _is_hand(plain, way)] or not _stand_apart(hands):
        return False
    if sum([_loss(part_at(plain, way)) for way in hands]) != lost:
        return False
    return first_fork(_turned(plain, (), hands)) is None


def _is_hand(tree, value):
    """Whether any value is a way, other than (), that leads to a trip in a tree."""
    try:
        return value != () and is_trip(part_at(tree, value))
    except NoPart:
        return False


def _stand_apart(hands):
    """Whether ways ascend, and none is the beginning of another one."""
    for place in range(1, len(hands)):
        one, other = hands[place - 1], hands[place]
        # Of ways that ascend the beginning of a further one would be the beginning of the next one, too.
        if other <= one or other[:len(one)] == one:
            return False
    return True


def _turned(thing, way, hands):
    """What a thing at a way is when the trips at all these ways are turned to buttons."""
    if not is_trip(thing):
        return thing
    if way in hands:
        return least_button(thing)
    bound, parts = thing
    return (bound, tuple([_turned(part, way + (place,), hands) for place, part in enumerate(parts)]))
