"""How many least lots a tree has, and which one has which number."""

from onescale.errors import Unfit
from onescale.helpers import SIZE_BASE, button_pair, by_size, is_integer, is_trip, tally
from onescale.lots import lot_error
from onescale.trips import buttons_of


def least_count(tree, must, never):
    """How many least lots have all buttons of must and none of never."""
    buttons = buttons_of(tree)
    if [button for button in must if button not in buttons]:
        return 0
    return _least_pair(tree, must, never, 1)[0]


def least_sizes(tree):
    """The ascending pairs of a size and of how many least lots, one or more, have it."""
    sizes = by_size(_least_pair(tree, (), (), SIZE_BASE)[0])
    return tuple([(size, number) for size, number in enumerate(sizes) if number])


def _least_pair(thing, must, never, weight):
    """The numbers of least lots of a thing, and of ways to take no button of it, that must and never let by;
    each lot counts as the weights of its buttons multiplied."""
    if not is_trip(thing):
        return button_pair(thing, must, never, weight)
    bound, parts = thing
    sums = tally([_least_pair(part, must, never, weight) for part in parts])
    return (sums[bound], sums[0])


def least_at(tree, value):
    """The least lot with the number value."""
    if not is_integer(value) or not 0 <= value < least_count(tree, (), ()):
        raise Unfit()
    lot, never = (), ()
    ahead = 0
    for button in buttons_of(tree):
        # No least lot is the beginning of another one: so those with the button stand ahead of those without it.
        number = least_count(tree, lot + (button,), never)
        if value < ahead + number:
            lot = lot + (button,)
        else:
            ahead += number
            never = never + (button,)
    return lot


def least_number(tree, value):
    """The number of the least lot value."""
    if lot_error(value) is not None or not _is_counted(tree, value):
        raise Unfit()
    number = 0
    lot, never = (), ()
    for button in buttons_of(tree):
        if button in value:
            lot = lot + (button,)
        else:
            number += least_count(tree, lot + (button,), never)
            never = never + (button,)
    return number


def _is_counted(tree, lot):
    """Whether a lot is a least lot: the only one with all of its buttons and none of the others."""
    others = tuple([button for button in buttons_of(tree) if button not in lot])
    return least_count(tree, lot, others) == 1
