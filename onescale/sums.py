"""How many lots of a scale's buttons have which sum."""

from onescale.bounds import MAX_SUM
from onescale.errors import TooMany
from onescale.helpers import weight_sum


def sum_counts(scale):
    """The ascending pairs of a sum and of how many lots, one or more, have it."""
    rows, _ = scale
    if weight_sum(rows) > MAX_SUM:
        raise TooMany(MAX_SUM)
    counts = {0: 1}
    for _, weight in rows:
        counts = _with_weight(counts, weight)
    return tuple(sorted(counts.items()))


def _with_weight(counts, weight):
    """For each sum how many lots have it when a further button of this weight is put to each lot or is not."""
    found = dict(counts)
    for total, number in counts.items():
        found[total + weight] = found.get(total + weight, 0) + number
    return found


def scale_going(scale):
    """How many lots of the scale's buttons go."""
    _, bound = scale
    return sum([number for total, number in sum_counts(scale) if total >= bound])
