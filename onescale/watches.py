"""Watches: they go along with buttons that are pressed and let."""

from onescale.errors import NoButton
from onescale.helpers import is_integer, is_trip, with_button, without_button
from onescale.trips import buttons_of, part_at, way_to, ways


class Watch:
    """Goes along with the buttons of a tree; at first none is pressed."""

    def __init__(self, tree):
        trips = [way for way in ways(tree) if is_trip(part_at(tree, way))]
        self._ways = {button: way_to(tree, button) for button in buttons_of(tree)}
        self._bounds = {way: part_at(tree, way)[0] for way in trips}
        # For the way of each trip: how many of its parts go.
        self._going = {way: 0 for way in trips}
        self._pressed = ()
        self._touched = 0
        self._goes = False

    @property
    def goes(self):
        """Whether the tree goes."""
        return self._goes

    @property
    def pressed(self):
        """The ascending tuple of the buttons that are pressed."""
        return self._pressed

    @property
    def touched(self):
        """How often so far a trip came to have one more, or one less, of its parts that go."""
        return self._touched

    def press(self, button):
        """The button is pressed from now on; whether the tree goes then."""
        self._check(button)
        if button not in self._pressed:
            self._pressed = with_button(self._pressed, button)
            self._touch(button, 1)
        return self._goes

    def let(self, button):
        """The button is not pressed from now on; whether the tree goes then."""
        self._check(button)
        if button in self._pressed:
            self._pressed = without_button(self._pressed, button)
            self._touch(button, -1)
        return self._goes

    def _check(self, value):
        """Any value has to be a button of the tree."""
        if not is_integer(value) or value not in self._ways:
            raise NoButton(value)

    def _touch(self, button, more):
        """Count outward from a button that began to go (more is 1) or to fail (-1), as long as trips do likewise."""
        way = self._ways[button]
        while way != ():
            way = way[:-1]
            went = self._going[way] >= self._bounds[way]
            self._going[way] += more
            self._touched += 1
            if (self._going[way] >= self._bounds[way]) == went:
                return
        self._goes = more == 1

    def __len__(self):
        return len(self._pressed)

    def __contains__(self, value):
        return is_integer(value) and value in self._pressed

    def __iter__(self):
        return iter(self._pressed)
