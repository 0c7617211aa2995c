"""How many lots of a tree's buttons go, and which one has which number."""

from onescale.errors import Unfit
from onescale.helpers import SIZE_BASE, button_pair, by_size, is_integer, is_trip, tally
from onescale.lots import goes, is_going_lot
from onescale.trips import buttons_of


def going_count(tree, must, never):
    """How many lots of buttons of the tree go, have all buttons of must and none of never."""
    buttons = buttons_of(tree)
    if [button for button in must if button not in buttons]:
        return 0
    return going_pair(tree, must, never, 1)[0]


def going_sizes(tree):
    """Item i: how many lots of i buttons of the tree go."""
    return tuple(by_size(going_pair(tree, (), (), SIZE_BASE)[0]))


def going_pair(thing, must, never, weight):
    """The numbers of lots of a thing's buttons with which it goes, and fails, that must and never let by;
    each lot counts as the weights of its buttons multiplied."""
    if not is_trip(thing):
        return button_pair(thing, must, never, weight)
    bound, parts = thing
    sums = tally([going_pair(part, must, never, weight) for part in parts])
    return (sum(sums[bound:]), sum(sums[:bound]))


def going_at(tree, value):
    """The lot of buttons of the tree that goes and has the number value."""
    if not is_integer(value) or not 0 <= value < going_count(tree, (), ()):
        raise Unfit()
    lot, never = (), ()
    ahead = 0
    for button in buttons_of(tree):
        longer = lot + (button,)
        number = going_count(tree, longer, never)
        if value >= ahead + number:
            ahead += number
            never = never + (button,)
            continue
        lot = longer
        # A lot stands ahead of all that it is the beginning of.
        if goes(tree, lot):
            if value == ahead:
                break
            ahead += 1
    return lot


def going_number(tree, value):
    """The number of the lot value among those of the tree's buttons that go."""
    if not is_going_lot(tree, value):
        raise Unfit()
    # The lots up to this one, itself among them, less 1.
    number = -1
    lot, never = (), ()
    for button in [other for other in buttons_of(tree) if other <= value[-1]]:
        longer = lot + (button,)
        if button not in value:
            number += going_count(tree, longer, never)
            never = never + (button,)
        else:
            lot = longer
            number += 1 if goes(tree, lot) else 0
    return number
