"""A foe that is asked for the states of buttons, and answers so that as many as can be still matter."""

from onescale.errors import NoButton, Unfit
from onescale.stuck import left
from onescale.trips import buttons_of, part_at, way_to


def foe(tree, on, off, value):
    """Whether the foe tells that the button value is pressed, when asked behind on and off."""
    rest = left(tree, on, off)
    # A settled tree is left as True or False: no button matters there.
    if isinstance(rest, bool):
        raise NoButton(value)
    way = way_to(rest, value)
    if way == ():
        return True
    bound, _ = part_at(rest, way[:-1])
    return bound > 1


def asked_out(tree, buttons):
    """The foe's answers as it is asked for all buttons of the tree in this order."""
    if tuple(sorted(buttons)) != buttons_of(tree):
        raise Unfit()
    answers = []
    on, off = (), ()
    for button in buttons:
        answers.append(foe(tree, on, off, button))
        if answers[-1]:
            on = tuple(sorted(on + (button,)))
        else:
            off = tuple(sorted(off + (button,)))
    return tuple(answers)
