"""What settles a tree, and how few buttons show what it does with a lot."""

from onescale.helpers import is_trip, tally
from onescale.lots import is_lot_of
from onescale.stuck import left


def settled(tree, on, off):
    """True or False if the tree goes, or fails, whatever comes besides; otherwise None."""
    rest = left(tree, on, off)
    return rest if isinstance(rest, bool) else None


def shown(tree, lot):
    """Any ascending tuple of as few buttons as can be whose states settle what the tree does with the lot."""
    _, buttons, _ = _shown_by(tree, lot)
    return tuple(sorted(buttons))


def shown_size(tree, lot):
    """How few buttons show a lot."""
    _, buttons, _ = _shown_by(tree, lot)
    return len(buttons)


def shown_count(tree, lot):
    """How many tuples of so few buttons show a lot."""
    _, _, number = _shown_by(tree, lot)
    return number


def _shown_by(thing, lot):
    """Whether a thing goes with a lot; as few buttons as can be that show it; how many choices of them there are."""
    if not is_trip(thing):
        return (thing in lot, [thing], 1)
    bound, parts = thing
    rows = [_shown_by(part, lot) for part in parts]
    does = len([row for row in rows if row[0]]) >= bound
    # So many parts that do as the trip does are enough to show it.
    needed = bound if does else len(parts) - bound + 1
    fitting = sorted([row for row in rows if row[0] == does], key=_row_size)
    most = _row_size(fitting[needed - 1])
    # All parts that take less than the last of them are chosen; of those that take as much any will do.
    fewer = [row for row in fitting if _row_size(row) < most]
    number = tally([(row[2], 1) for row in fitting if _row_size(row) == most])[needed - len(fewer)]
    for row in fewer:
        number = number * row[2]
    return (does, [button for row in fitting[:needed] for button in row[1]], number)


def _row_size(row):
    """How many buttons a row of _shown_by has."""
    return len(row[1])


def shown_holds(tree, lot, value):
    """Whether any value is an ascending tuple of as few buttons as can be that show a lot."""
    if not is_lot_of(tree, value) or len(value) != shown_size(tree, lot):
        return False
    on = tuple([button for button in value if button in lot])
    off = tuple([button for button in value if button not in lot])
    return settled(tree, on, off) is not None
