"""What a deed changes: the lots that go with one tree and not with another."""

from onescale.bounds import MAX_ROW
from onescale.errors import TooMany, Unfit
from onescale.lots import goes
from onescale.scales import lot_sums
from onescale.trips import buttons_of


def gained(one, other):
    """How many lots of their buttons go with other and not with one, and how many with one and not with other."""
    buttons = buttons_of(one)
    if buttons != buttons_of(other):
        raise Unfit()
    if len(buttons) > MAX_ROW:
        raise TooMany(MAX_ROW)
    come = gone = 0
    for lot, _ in lot_sums([(button, 1) for button in buttons]):
        does, did = goes(other, lot), goes(one, lot)
        if does and not did:
            come += 1
        elif did and not does:
            gone += 1
    return (come, gone)
