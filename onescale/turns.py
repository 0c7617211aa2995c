"""Turns of a button, the lots that go just with it, and its share of the orders in which buttons are pressed."""

from math import factorial, gcd

from onescale.goingcounts import going_pair
from onescale.helpers import SIZE_BASE, by_size, tally
from onescale.trips import buttons_of, way_to


def turn_count(tree, value):
    """How many turns the button value has."""
    return sum(turn_sizes(tree, value))


def turn_sizes(tree, value):
    """Item i: how many turns of the button value have i buttons, i below the number of the tree's buttons."""
    number = 1
    thing = tree
    for place in way_to(tree, value):
        # The trip hangs on the part with the button exactly if its other parts lack just this one.
        bound, parts = thing
        others = parts[:place] + parts[place + 1:]
        number = number * tally([going_pair(part, (), (), SIZE_BASE) for part in others])[bound - 1]
        thing = parts[place]
    sizes = by_size(number)
    return tuple(sizes + [0] * (len(buttons_of(tree)) - len(sizes)))


def order_share(tree, value):
    """The fraction of the orders of the buttons in which the tree goes first at the button value."""
    sizes = turn_sizes(tree, value)
    last = len(sizes) - 1
    above = sum([number * factorial(size) * factorial(last - size) for size, number in enumerate(sizes)])
    below = factorial(last + 1)
    shared = gcd(above, below)
    return (above // shared, below // shared)


def shares(tree):
    """The ascending pairs of a button and of its share of the orders."""
    return tuple([(button, order_share(tree, button)) for button in buttons_of(tree)])
