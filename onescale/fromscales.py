"""Trees built back from scales, and scales made as light as can be."""

from onescale.fromlots import put_together, tree_of
from onescale.nests import scale_of
from onescale.scales import scale_lots


def nest_of(scale):
    """The told tree with which just the lots go that go on a scale."""
    return tree_of(scale_lots(scale))


def lowered(scale):
    """The scale of the same buttons, on which the same lots go, with the least weights."""
    weighed, bound = scale_of(nest_of(scale))
    weights = dict(weighed)
    rows, _ = scale
    return (tuple([(button, weights.get(button, 0)) for button, _ in rows]), bound)


def is_of_trips(scale):
    """Whether some tree does what a scale does."""
    return len(put_together(scale_lots(scale))) == 1
