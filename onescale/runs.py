"""Runs: buttons pressed and let one after another; and how few more it takes to go or to fail."""

from onescale.contraries import contrary
from onescale.errors import NoButton
from onescale.helpers import is_trip, with_button, without_button
from onescale.lots import goes
from onescale.scales import scale_goes
from onescale.trips import buttons_of


def run(tree, events):
    """Behind each event whether the tree goes."""
    return tuple([goes(tree, lot) for lot in _lots_behind(buttons_of(tree), events)])


def changes(tree, events):
    """The places of the events behind which the tree goes otherwise than ahead of them."""
    states = (False,) + run(tree, events)
    return tuple([place for place in range(len(events)) if states[place] != states[place + 1]])


def run_scale(scale, events):
    """Behind each event whether the scale goes."""
    rows, _ = scale
    return tuple([scale_goes(scale, lot) for lot in _lots_behind([button for button, _ in rows], events)])


def _lots_behind(buttons, events):
    """The lot of the buttons that are pressed behind each event; all have to be among these buttons."""
    for _, button in events:
        if button not in buttons:
            raise NoButton(button)
    found = []
    lot = ()
    for word, button in events:
        lot = without_button(lot, button)
        if word == "press":
            lot = with_button(lot, button)
        found.append(lot)
    return found


def fewest_presses(tree, lot):
    """Any least number of buttons that have to be put to a lot to make the tree go."""
    return tuple(sorted(_lacking(tree, lot)))


def fewest_lets(tree, lot):
    """Any least number of buttons that have to be taken out of a lot to make the tree fail."""
    # A tree fails exactly if its contrary goes with all buttons that are not pressed.
    return fewest_presses(contrary(tree), tuple([button for button in buttons_of(tree) if button not in lot]))


def _lacking(thing, lot):
    """As few buttons as can be with which, put to a lot, a thing goes."""
    if not is_trip(thing):
        return [] if thing in lot else [thing]
    bound, parts = thing
    chosen = sorted([_lacking(part, lot) for part in parts], key=len)[:bound]
    return [button for buttons in chosen for button in buttons]
