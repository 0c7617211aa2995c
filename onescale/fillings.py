"""Which fillings of a frame are left by a book, and what they tell of its bounds and of lots."""

from onescale.bounds import MAX_FILL
from onescale.errors import NoFilling, TooMany
from onescale.frames import gap_sizes
from onescale.helpers import is_trip


def fillings_left(frame, book):
    """How many fillings go against no line of the book."""
    return len(_left_by(frame, book))


def any_filling(frame, book):
    """Any filling that goes against no line of the book."""
    found = _left_by(frame, book)
    if not found:
        raise NoFilling(_clashes(frame, book))
    return found[0]


def bounds_left(frame, book):
    """For each gap the ascending tuple of the bounds that the fillings that are left have for it."""
    found = _left_by(frame, book)
    return tuple([tuple(sorted(set([filling[place] for filling in found]))) for place in range(len(gap_sizes(frame)))])


def read_lot_by(frame, book, lot):
    """True or False if a lot goes, or fails, by all fillings that are left, otherwise None."""
    against = lines_against(frame, book)
    goings = [mask for mask, lines in zip(_going_masks(frame, [lot]), against) if lines == 0]
    if not goings:
        raise NoFilling(_clashes(frame, book))
    return goings[0] == 1 if min(goings) == max(goings) else None


def lines_against(frame, book):
    """For each filling, ascending: the lines that it goes against, as a number with the bit of each one's place."""
    number = 1
    for size in gap_sizes(frame):
        number = number * size
    if number > MAX_FILL:
        raise TooMany(MAX_FILL)
    went = sum([1 << place for place, line in enumerate(book) if line[1]])
    return [mask ^ went for mask in _going_masks(frame, [lot for lot, _ in book])]


def _going_masks(thing, lots):
    """For each filling of a thing, ascending: the lots that go by it, as a number with the bit of each one's place."""
    if not is_trip(thing):
        return [_mask_of([thing in lot for lot in lots])]
    bound, parts = thing
    # For each filling of the parts so far: how many of them go with each lot.
    counts = [[0] * len(lots)]
    for part in parts:
        masks = _going_masks(part, lots)
        counts = [[many + ((mask >> place) & 1) for place, many in enumerate(row)] for row in counts for mask in masks]
    bounds = list(range(1, len(parts) + 1)) if bound is None else [bound]
    return [_mask_of([many >= least for many in row]) for least in bounds for row in counts]


def _mask_of(states):
    """The number with the bit of each place at which there is True."""
    return sum([1 << place for place, state in enumerate(states) if state])


def _left_by(frame, book):
    """The fillings that go against no line of the book, ascending."""
    against = lines_against(frame, book)
    found = [()]
    for size in gap_sizes(frame):
        found = [filling + (bound,) for filling in found for bound in range(1, size + 1)]
    return [filling for filling, lines in zip(found, against) if lines == 0]


def _clashes(frame, book):
    """A paper that no filling is left: for each the last line that it goes against."""
    return ("clashes", tuple([lines.bit_length() - 1 for lines in lines_against(frame, book)]))
