"""What is left when buttons are pressed for good or stuck: point B5 and what B6 says of it."""

import itertools
import random

from onescale.errors import Unfit
from onescale.lots import goes
from onescale.stuck import left
from onescale.told import is_told, told
from onescale.trips import tree_error
from tests.support import HALF, SMALL_TREES, STAIRS, Case, large_trees, leaves, lots_of
from tests.test_told import table


def deals(buttons):
    """All pairs of lots of these buttons that have none in both."""
    for states in itertools.product((None, "on", "off"), repeat=len(buttons)):
        rows = sorted(zip(buttons, states))
        yield tuple([b for b, state in rows if state == "on"]), tuple([b for b, state in rows if state == "off"])


class Left(Case):

    def check(self, tree, on, off):
        found = left(tree, on, off)
        free = [button for button in leaves(tree) if button not in on + off]
        pressed = [button for button in leaves(tree) if button in on]
        wanted = tuple([goes(tree, tuple(sorted(list(lot) + pressed))) for lot in lots_of(free)])
        if isinstance(found, bool):
            self.assertEqual(set(wanted), {found}, (tree, on, off))
        else:
            self.assertExact(tree_error(found), None)
            self.assertTrue(is_told(found))
            self.assertFalse([button for button in leaves(found) if button not in free])
            self.assertEqual(table(found, free), wanted, (tree, on, off))

    def test_small_trees(self):
        for tree in SMALL_TREES[::2]:
            for on, off in deals(leaves(tree)[:4]):
                self.check(tree, on, off)

    def test_nothing_is_stuck(self):
        for tree in SMALL_TREES + large_trees():
            self.assertExact(left(tree, (), ()), told(tree))
            self.assertExact(left(tree, tuple(sorted(leaves(tree))), ()), True)
            self.assertExact(left(tree, (), tuple(sorted(leaves(tree)))), False)

    def test_further_buttons_make_no_difference(self):
        for tree in SMALL_TREES[::9]:
            for on, off in deals(leaves(tree)[:3]):
                self.assertExact(left(tree, on + (97,), off + (98,)) if 99 not in leaves(tree) else left(tree, on, off),
                                 left(tree, on, off))

    def test_buttons(self):
        for button in (0, 1, 99):
            self.assertExact(left(button, (), ()), button)
            self.assertExact(left(button, (button,), ()), True)
            self.assertExact(left(button, (), (button,)), False)
            self.assertExact(left(button, (50,), (51,)), button)

    def test_one_button_is_left(self):
        # The buttons 0 and 1 that are left are not False and True, although Python says that they equal them.
        for number in (0, 1):
            other = 1 - number
            self.assertExact(left((1, (0, 1)), (), (other,)), number)
            self.assertExact(left((2, (0, 1)), (other,), ()), number)
            self.assertExact(left((2, (0, 1, 5)), (5,), (other,)), number)
            self.assertExact(left((1, (0, 1)), (other,), ()), True)
            self.assertExact(left((2, (0, 1)), (), (other,)), False)

    def test_unfit(self):
        for tree in (5, HALF, (2, (0, (1, (3, 4)), 7))):
            for on, off in (((0,), (0,)), ((0, 50), (50,)), ((50,), (0, 50)), ((3, 4), (1, 4, 6)), ((99,), (99,)),
                            ((0, 1, 2), (2, 3)), (tuple(range(100)), (99,))):
                self.assertRaisesExact(Unfit(), left, tree, on, off)

    def test_half(self):
        self.assertExact(left(HALF, tuple(range(11)), ()), (1, tuple(range(11, 24))))
        self.assertExact(left(HALF, tuple(range(12)), ()), True)
        self.assertExact(left(HALF, (), tuple(range(12))), (12, tuple(range(12, 24))))
        self.assertExact(left(HALF, (), tuple(range(13))), False)
        self.assertExact(left(HALF, tuple(range(11)), tuple(range(11, 23))), 23)

    def test_deep_trees(self):
        for number in range(11):
            rest = left(STAIRS, tuple(range(1, number + 1, 2)), tuple(range(0, number + 1, 2)))
            self.assertExact(sorted(leaves(rest)), list(range(number + 1, 12)))

    def test_two_steps_are_as_one(self):
        rng = random.Random(8)
        for tree in SMALL_TREES[::3] + large_trees() * 4:
            buttons = leaves(tree) + [77]
            states = {button: rng.choice(["", "", "", "on", "off"]) for button in buttons}
            on = tuple(sorted(button for button in buttons if states[button] == "on"))
            off = tuple(sorted(button for button in buttons if states[button] == "off"))
            # A button may be pressed, or stuck, in both steps.
            first_on = tuple([button for button in on if rng.random() < 0.5])
            first_off = tuple([button for button in off if rng.random() < 0.5])
            then_on = tuple([button for button in on if button not in first_on or rng.random() < 0.5])
            then_off = tuple([button for button in off if button not in first_off or rng.random() < 0.5])
            rest = left(tree, first_on, first_off)
            if not isinstance(rest, bool):
                self.assertExact(left(rest, then_on, then_off), left(tree, on, off))
