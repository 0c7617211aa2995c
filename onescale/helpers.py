"""What several modules need: kinds of values, and what stands in a tree."""

from onescale.bounds import MAX_BUTTON


def is_integer(value):
    """Whether value is an integer; True and False are none."""
    return isinstance(value, int) and not isinstance(value, bool)


def is_button(value):
    """Whether any value is a button."""
    return is_integer(value) and 0 <= value <= MAX_BUTTON


def is_trip(thing):
    """Whether something that stands in a tree is a trip, not a button."""
    return isinstance(thing, tuple)


def least_button(thing):
    """The least button of a thing in which all parts are told."""
    while is_trip(thing):
        thing = thing[1][0]
    return thing
