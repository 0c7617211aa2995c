"""Papers that no scale of a tree can give a button less than a weight."""

from onescale.bounds import MAX_LOTS
from onescale.errors import TooMany
from onescale.helpers import without_button
from onescale.lots import goes, is_going_lot, is_lot_of
from onescale.nests import levels, scale_of
from onescale.trips import buttons_of, way_to


def weight_paper(tree, value):
    """Any weight paper for the button value of a nest, with as many pairs as its weight in scale_of."""
    way_to(tree, value)
    rows = levels(tree)
    if dict(scale_of(tree)[0])[value] > MAX_LOTS:
        raise TooMany(MAX_LOTS)
    level = [place for place, (_, buttons) in enumerate(rows) if value in buttons][0]
    # Around the level of the button each trip is left to lack just the part within it.
    around = ()
    for bound, buttons in rows[:level]:
        around = around + buttons[:bound - 1]
    paper = _papers(rows[level:])[value]
    return tuple([(_lot(around + going), _lot(around + failing)) for going, failing in paper])


def _lot(buttons):
    """The lot of buttons in any order."""
    return tuple(sorted(buttons))


def _papers(rows):
    """For each button of a nest with these levels: the pairs of a weight paper, their buttons in any order.

    In a paper with as many pairs as the weight each going sums to the bound and each failing to 1 less, and over
    all pairs no other button stands more often, or less often, in goings than in failings.
    """
    bound, inside = rows[-1]
    papers = {}
    for button in inside:
        others = without_button(inside, button)[:bound - 1]
        papers[button] = [(others + (button,), others)]
    # Lots of what is within with such sums, the second being the first without one button of the weight 1.
    going, failing = inside[:bound], inside[:bound - 1]
    for bound, buttons in rows[:-1][::-1]:
        papers = _papers_around(bound, buttons, going, failing, papers)
        own = buttons[:bound - 1]
        going, failing = own + going, own + failing
    return papers


def _papers_around(bound, buttons, going, failing, within):
    """What _papers tells with one more level around what is within, of which the papers and both lots are known."""
    found = {}
    for button in buttons:
        others = without_button(buttons, button)
        by_going = _by_going(bound, button, others, failing, within)
        by_failing = _by_failing(bound, button, others, going, within)
        found[button] = by_going if len(by_going) >= len(by_failing) else by_failing
    own = buttons[:bound - 1]
    for button in within:
        found[button] = [(own + one, own + other) for one, other in within[button]]
    return found


def _by_going(bound, button, others, failing, papers):
    """As many pairs as the first item of the pair of what is within; none if others are too few to need no trip."""
    if len(others) < bound - 1:
        return []
    own = others[:bound - 1]
    # The button makes up for all that goes within; the papers of failing's buttons, put together, balance failing.
    pairs = [(own + (button,), own + failing)]
    for inner in failing:
        pairs.extend([(own + one, own + other) for one, other in papers[inner]])
    return pairs


def _by_failing(bound, button, others, going, papers):
    """As many pairs as the second item of the pair of what is within; none if the trip goes by one part."""
    if bound < 2:
        return []
    fewer = others[:bound - 2]
    own = fewer + (button,)
    # The button makes up for all that is within; the papers of what going lacks, put together, balance the rest.
    pairs = [(own + going, fewer + tuple(papers))]
    for inner in papers:
        if inner not in going:
            pairs.extend([(own + one, own + other) for one, other in papers[inner]])
    return pairs


def weight_paper_holds(tree, button, value):
    """Whether any value is a weight paper for a button of a tree."""
    if not isinstance(value, tuple) or not 1 <= len(value) <= MAX_LOTS:
        return False
    more = {other: 0 for other in buttons_of(tree)}
    for item in value:
        if not _is_paper_pair(tree, item):
            return False
        going, failing = item
        for other in going:
            more[other] += 1
        for other in failing:
            more[other] -= 1
    return more[button] == 1 and not [other for other in more if other != button and more[other] > 0]


def _is_paper_pair(tree, value):
    """Whether any value is a pair of lots of buttons of the tree, the first of which goes and the second fails."""
    if not isinstance(value, tuple) or len(value) != 2:
        return False
    going, failing = value
    return is_going_lot(tree, going) and is_lot_of(tree, failing) and not goes(tree, failing)
