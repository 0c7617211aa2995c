"""Papers that no tree is of a family of lots."""

from onescale.helpers import least_button, numbers_met, place_classes
from onescale.leastcounts import least_count
from onescale.leastlots import is_least
from onescale.told import is_told
from onescale.trips import buttons_of, tree_error


def tree_paper_holds(lots, value):
    """Whether any value is a paper that no tree is of lots."""
    if not isinstance(value, tuple) or len(value) != 2 or value[0] != "stuck":
        return False
    parts = value[1]
    if not _are_parts(lots, parts):
        return False
    meets = [_meets_of(lot, parts) for lot in lots]
    patterns = [_pattern_of(meet) for meet in meets]
    return _is_built_of(parts, meets, patterns) and _is_stuck(patterns, len(parts))


def _are_parts(lots, value):
    """Whether any value is a tuple of two told trees or more, by least buttons, of just the buttons of lots."""
    if not isinstance(value, tuple) or len(value) < 2:
        return False
    if [part for part in value if tree_error(part) is not None or not is_told(part)]:
        return False
    least = [least_button(part) for part in value]
    found = [button for part in value for button in buttons_of(part)]
    return least == sorted(least) and sorted(found) == sorted(set([button for lot in lots for button in lot]))


def _meets_of(lot, parts):
    """What of a lot lies in each part."""
    meets = []
    for part in parts:
        buttons = buttons_of(part)
        meets.append(tuple([button for button in lot if button in buttons]))
    return meets


def _pattern_of(meets):
    """The places of the parts that a lot meets, as a number with a bit for each."""
    return sum([1 << place for place, meet in enumerate(meets) if meet])


def _is_built_of(parts, meets, patterns):
    """Whether each lot meets each part in nothing or a least lot, and all such lots of the parts it meets are there."""
    for row in meets:
        if [part for part, meet in zip(parts, row) if meet and not is_least(part, meet)]:
            return False
    numbers = [least_count(part, (), ()) for part in parts]
    for pattern in sorted(set(patterns)):
        wanted = 1
        for place, number in enumerate(numbers):
            if (pattern >> place) & 1:
                wanted = wanted * number
        # All that are there are unlike, and put together of least lots; so none lacks if there are so many.
        if patterns.count(pattern) != wanted:
            return False
    return True


def _is_stuck(patterns, many):
    """Whether each class of two places or more is met in unlike numbers."""
    classes = [places for places in place_classes(patterns, many) if len(places) > 1]
    return not [places for places in classes if len(numbers_met(patterns, places)) < 2]
