"""What is left of a tree when buttons are pressed for good or stuck."""

from onescale.errors import Unfit
from onescale.helpers import is_trip
from onescale.told import told


def left(tree, on, off):
    """True or False if the tree is settled, otherwise the told tree that is left."""
    if [button for button in on if button in off]:
        raise Unfit()
    rest = _rest_of(tree, on, off)
    return rest if isinstance(rest, bool) else told(rest)


def _rest_of(thing, on, off):
    """What is left of a thing, True or False if it is settled."""
    if not is_trip(thing):
        if thing in on:
            return True
        return False if thing in off else thing
    bound, parts = thing
    rests = [_rest_of(part, on, off) for part in parts]
    needed = bound - len([rest for rest in rests if rest is True])
    unsettled = [rest for rest in rests if not isinstance(rest, bool)]
    if needed <= 0:
        return True
    return (needed, tuple(unsettled)) if needed <= len(unsettled) else False
