"""What several modules need: kinds of values, and what stands in a tree."""

from onescale.bounds import MAX_BUTTON
from onescale.errors import BadText

FIGURES = "0123456789"


def is_integer(value):
    """Whether value is an integer; True and False are none."""
    return isinstance(value, int) and not isinstance(value, bool)


def is_button(value):
    """Whether any value is a button."""
    return is_integer(value) and 0 <= value <= MAX_BUTTON


def is_trip(thing):
    """Whether something that stands in a tree is a trip, not a button."""
    return isinstance(thing, tuple)


def least_button(thing):
    """The least button of a thing in which all parts are told."""
    while is_trip(thing):
        thing = thing[1][0]
    return thing


def trips_in(thing):
    """All trips in a thing, itself first, in order of their ways."""
    if not is_trip(thing):
        return []
    found = [thing]
    for part in thing[1]:
        found.extend(trips_in(part))
    return found


def trip_parts(trip):
    """The parts of a trip that are trips, in their order."""
    return [part for part in trip[1] if is_trip(part)]


def first_fork(tree):
    """The first trip in order of which two parts are trips, None if there is none."""
    for trip in trips_in(tree):
        if len(trip_parts(trip)) > 1:
            return trip
    return None


def number_of(figures, most):
    """The integer of which a text of at most so many figures is the decimal. The bound is asked ahead of
    all else, so a number of thousands of figures is never made an integer."""
    if not 1 <= len(figures) <= most or [sign for sign in figures if sign not in FIGURES]:
        raise BadText()
    if len(figures) > 1 and figures[0] == "0":
        raise BadText()
    return int(figures)


def with_button(lot, button):
    """The lot with a button put to it."""
    return tuple(sorted(lot + (button,)))


def without_button(lot, button):
    """The lot with a button taken out."""
    return tuple([other for other in lot if other != button])


def tally(rows):
    """Rows are pairs of numbers. Item j: the sum, over all ways to choose j rows, of the product of
    the first numbers of these rows and the second numbers of all others."""
    sums = [1]
    for first, second in rows:
        sums = _with_pair(sums, first, second)
    return sums


def _with_pair(sums, first, second):
    """What tally tells when one more row is put to those of these sums."""
    longer = [0] * (len(sums) + 1)
    for chosen, total in enumerate(sums):
        longer[chosen] += total * second
        longer[chosen + 1] += total * first
    return longer


# A number can tell how many lots of each size there are: as figures to this base, that of the size 0 last.
# To add and to multiply such numbers adds lots and puts them together. As a tree has at most 2 ** 24 lots
# of its buttons no figure reaches the base, which is 2 ** 32.
SIZE_BASE = 4294967296


def by_size(number):
    """How many lots of 0, 1, 2 .. buttons a number tells, up to the greatest size that it has."""
    sizes = []
    while number > 0:
        sizes.append(number % SIZE_BASE)
        number = number // SIZE_BASE
    return sizes


def button_pair(button, must, never, weight):
    """The numbers of lots with and without a button that must and never let by, one with it counting as weight."""
    return (0 if button in never else weight, 0 if button in must else 1)


def pair_and_weights(shape):
    """Of a shape, levels (bound, how many own buttons) from the outermost on: its pair, and for each level
    the weight of the buttons in it."""
    bound, many = shape[-1]
    first, second = bound, many - bound + 1
    weights = [1]
    for bound, many in shape[:-1][::-1]:
        if bound == 1:
            weight = first
        elif bound > many:
            weight = second
        else:
            weight = max(first, second)
        weights.append(weight)
        first, second = first + (bound - 1) * weight, second + (many - bound + 1) * weight
    return (first, second), tuple(weights[::-1])


def weight_sum(rows):
    """The sum of all weights of the rows of a scale."""
    return sum([weight for _, weight in rows])


# Tuples of places are told as masks: numbers with the bit of each place.

def place_classes(masks, many):
    """The lists of those places, from 0 to many - 1, that can be exchanged with one another without changing masks."""
    known = {mask: True for mask in masks}
    classes = []
    for place in range(many):
        fitting = [places for places in classes if _are_exchangeable(known, places[0], place)]
        if fitting:
            fitting[0].append(place)
        else:
            classes.append([place])
    return classes


def _are_exchangeable(known, one, other):
    """Whether the masks stay the same when two places are exchanged in each of them."""
    both = (1 << one) | (1 << other)
    return not [mask for mask in known if (mask & both) not in (0, both) and (mask ^ both) not in known]


def numbers_met(masks, places):
    """The ascending numbers of these places that masks have, 0 left out."""
    numbers = [len([place for place in places if (mask >> place) & 1]) for mask in masks]
    return sorted(set([number for number in numbers if number > 0]))
