"""Which button of a tree is no worse than which."""

from onescale.helpers import first_fork, is_trip, trip_parts, trips_in, without_button
from onescale.lots import goes
from onescale.told import told
from onescale.trips import buttons_of, part_at, way_to


def no_worse(tree, one, other):
    """Whether a button one is no worse than a button other."""
    tree = told(tree)
    way, other_way = way_to(tree, one), way_to(tree, other)
    # The trip around one has to be the lowest that holds both; where they are one button it is.
    return other_way[:len(way) - 1] == way[:-1]


def worse_lot(tree, one, other):
    """Any lot without both that goes with other put to it and fails with one, None if there is none."""
    if no_worse(tree, one, other):
        return None
    tree = told(tree)
    way, other_way = way_to(tree, one), way_to(tree, other)
    meet = _places_alike(way, other_way)
    bound, parts = part_at(tree, way[:meet])
    mine, others = parts[way[meet]], parts[other_way[meet]]
    pressed = _one_short(tree, way[:meet]) + _one_short(others, other_way[meet + 1:])
    missing = bound - 1
    if missing > len(parts) - 2 or goes(mine, (one,)):
        # The part in which one lies goes without it.
        pressed.extend(without_button(buttons_of(mine), one))
        missing -= 1
    for part in _besides(parts, (way[meet], other_way[meet]))[:missing]:
        pressed.extend(buttons_of(part))
    return tuple(sorted(pressed))


def _places_alike(one, other):
    """How many places at the beginning of two ways are the same."""
    alike = 0
    while one[alike] == other[alike]:
        alike += 1
    return alike


def _one_short(tree, way):
    """Buttons with which each trip along a way lacks just one part, that to which the way leads on."""
    pressed = []
    thing = tree
    for place in way:
        bound, parts = thing
        for part in _besides(parts, (place,))[:bound - 1]:
            pressed.extend(buttons_of(part))
        thing = parts[place]
    return pressed


def _besides(parts, places):
    """The parts that do not stand at the places."""
    return [part for place, part in enumerate(parts) if place not in places]


def alike_buttons(tree):
    """The classes of buttons that are alike, ascending: those that are parts of one trip of the told tree."""
    tree = told(tree)
    if not is_trip(tree):
        return ((tree,),)
    classes = [_own_buttons(trip) for trip in trips_in(tree)]
    return tuple(sorted([tuple(buttons) for buttons in classes if buttons]))


def above(tree):
    """The ascending pairs (one, other) of buttons of which one is no worse, and not alike."""
    pairs = []
    for trip in trips_in(told(tree)):
        for part in trip_parts(trip):
            pairs.extend([(one, other) for one in _own_buttons(trip) for other in buttons_of(part)])
    return tuple(sorted(pairs))


def _own_buttons(trip):
    """The buttons that are parts of a trip, in their order."""
    return [part for part in trip[1] if not is_trip(part)]


def is_chain(tree):
    """Whether of each two buttons one is no worse than the other."""
    return first_fork(told(tree)) is None


def gain(tree, one, other):
    """How many lots without both go with one put to them and fail with other."""
    way_to(tree, one)
    way_to(tree, other)
    return 0 if one == other else _both_counts(tree, one, other).get((1, 0), 0)


def _both_counts(thing, one, other):
    """For pairs (with one, with other) of 1 where a thing goes, 0 where not: how many lots of its other buttons."""
    if not is_trip(thing):
        if thing == one:
            return {(1, 0): 1}
        return {(0, 1): 1} if thing == other else {(0, 0): 1, (1, 1): 1}
    bound, parts = thing
    going = {(0, 0): 1}
    for part in parts:
        going = _put_together(going, _both_counts(part, one, other))
    found = {}
    for (with_one, with_other), number in going.items():
        does = (1 if with_one >= bound else 0, 1 if with_other >= bound else 0)
        found[does] = found.get(does, 0) + number
    return found


def _put_together(going, part_counts):
    """Counts of lots by how many parts go with one and with other, a further part being put to them."""
    found = {}
    for (with_one, with_other), number in going.items():
        for (more_one, more_other), many in part_counts.items():
            sums = (with_one + more_one, with_other + more_other)
            found[sums] = found.get(sums, 0) + number * many
    return found
