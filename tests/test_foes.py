"""A foe's answers: points K5 to K8."""

import itertools
import random

from onescale.errors import NoButton, Unfit
from onescale.foes import asked_out, foe
from onescale.looks import settled
from onescale.stuck import left
from tests.support import (
    ANY_VALUES, BIG, HALF, SMALL_TREES, STAIRS, WELL, Case, all_ways, large_trees, leaves, lots_of, plain_goes, put_to)
from tests.test_looks import TREE
from tests.test_stuck import deals


def mattering(tree, on, off):
    """The buttons that still matter, by the words of K1."""
    free = [button for button in leaves(tree) if button not in on + off]
    found = []
    for button in free:
        others = [other for other in free if other != button]
        if any(not plain_goes(tree, lot + on) and plain_goes(tree, lot + on + (button,)) for lot in lots_of(others)):
            found.append(button)
    return found


class Foe(Case):

    def check(self, tree, on, off):
        matter = mattering(tree, on, off)
        for button in leaves(tree) + [98]:
            if button not in matter:
                self.assertRaisesExact(NoButton(button), foe, tree, on, off, button)
                continue
            others = [other for other in matter if other != button]
            pressed = mattering(tree, put_to(on, button), off)
            answer = foe(tree, on, off, button)
            self.assertExact(answer, not set(others) - set(pressed), (tree, on, off, button))
            # K6: if it answers False, all others go on to matter.
            if not answer:
                self.assertEqual(sorted(mattering(tree, on, put_to(off, button))), sorted(others))
            else:
                self.assertEqual(sorted(pressed), sorted(others))

    def test_small_trees(self):
        for tree in SMALL_TREES[::5]:
            for on, off in deals(leaves(tree)[:3]):
                self.check(tree, on, off)

    def test_lowest_trip(self):
        # K6: False exactly if the lowest trip with the button in the tree that is left is a one-of.
        rng = random.Random(4)
        for tree in large_trees() + SMALL_TREES[::7]:
            for _ in range(10):
                states = {button: rng.choice(("on", "off", "free", "free", "free")) for button in sorted(leaves(tree))}
                on = tuple([button for button in states if states[button] == "on"])
                off = tuple([button for button in states if states[button] == "off"])
                rest = left(tree, on, off)
                for button in leaves(tree):
                    if isinstance(rest, bool) or button not in leaves(rest):
                        self.assertRaisesExact(NoButton(button), foe, tree, on, off, button)
                        continue
                    around = [part for _, part in all_ways(rest) if isinstance(part, tuple) and button in part[1]]
                    self.assertExact(foe(tree, on, off, button), not around or around[0][0] != 1)

    def test_buttons(self):
        for button in (0, 1, 99):
            for tree in (button, (1, (button,))):
                self.assertExact(foe(tree, (), (), button), True)
                self.assertExact(foe(tree, (50,), (51,), button), True)
                self.assertRaisesExact(NoButton(button), foe, tree, (button,), (), button)
                self.assertRaisesExact(NoButton(button), foe, tree, (), (button,), button)

    def test_settled_trees(self):
        # The trees that are left as True and False are not the buttons 1 and 0.
        for tree in ((1, (0, 1)), 1, 0, (2, (0, 1))):
            buttons = tuple(sorted(leaves(tree)))
            for value in (0, 1, True, False, None, ()):
                self.assertRaisesExact(NoButton(value), foe, tree, buttons, (), value)
                self.assertRaisesExact(NoButton(value), foe, tree, (), buttons, value)

    def test_any_value(self):
        for tree in (5, 1, 0, TREE, STAIRS, HALF, (1, (0, 1)), (2, (0, 1))):
            for value in ANY_VALUES:
                if type(value) is int and value in leaves(tree):
                    continue
                self.assertRaisesExact(NoButton(value), foe, tree, (), (), value)
                self.assertRaisesExact(NoButton(value), foe, tree, (60,), (61,), value)
                self.assertLeavesAsItIs(foe, tree, (), (), value)
        for value in (True, False, (0,), BIG, -1, [0], "0"):
            self.assertRaisesExact(NoButton(value), foe, (1, (0, 1)), (), (), value)

    def test_unfit_goes_first(self):
        for tree in SMALL_TREES[::30] + [HALF, STAIRS]:
            for value in [leaves(tree)[0], 98, None, True, [1], BIG]:
                self.assertRaisesExact(Unfit(), foe, tree, (77,), (77,), value)
                everything = tuple(range(100))
                self.assertRaisesExact(Unfit(), foe, tree, everything, everything, value)
                self.assertRaisesExact(Unfit(), foe, tree, everything, (3,), value)


class AskedOut(Case):

    def check(self, tree, order):
        answers = asked_out(tree, order)
        self.assertExact(len(answers), len(order))
        on, off = (), ()
        for place, (button, answer) in enumerate(zip(order, answers)):
            # K8: not settled ahead of the last answer, and each button still matters when it is asked for.
            self.assertExact(settled(tree, on, off), None)
            rest = left(tree, on, off)
            self.assertEqual(sorted(leaves(rest)), sorted(order[place:]))
            self.assertExact(foe(tree, on, off, button), answer)
            on, off = (put_to(on, button), off) if answer else (on, put_to(off, button))
        self.assertExact(answers[-1], True)
        self.assertExact(settled(tree, on, off), True)
        self.assertExact(plain_goes(tree, on), True)

    def test_small_trees(self):
        for tree in SMALL_TREES:
            if len(leaves(tree)) <= 4:
                for order in itertools.permutations(leaves(tree)):
                    self.check(tree, order)

    def test_more_trees(self):
        rng = random.Random(5)
        for tree in SMALL_TREES[-150:] + large_trees() + [STAIRS, WELL]:
            self.check(tree, tuple(leaves(tree)))
            self.check(tree, tuple(sorted(leaves(tree))))
            for _ in range(3):
                self.check(tree, tuple(rng.sample(leaves(tree), len(leaves(tree)))))

    def test_all_of_and_one_of(self):
        buttons = tuple(range(24))
        self.assertExact(asked_out((24, buttons), buttons[::-1]), (True,) * 24)
        self.assertExact(asked_out((1, buttons), buttons[::-1]), (False,) * 23 + (True,))
        self.assertExact(asked_out(HALF, buttons), (True,) * 11 + (False,) * 12 + (True,))

    def test_not_the_buttons_of_the_tree(self):
        for tree in SMALL_TREES[::20] + large_trees():
            buttons = tuple(leaves(tree))
            further = [button for button in range(100) if button not in buttons][0]
            for wrong in ((), buttons[1:], buttons[:-1], buttons + buttons[:1], buttons + (further,), buttons * 2,
                          buttons[1:] + (further,), buttons[1:] + buttons[1:2] if len(buttons) > 1 else (further,)):
                self.assertRaisesExact(Unfit(), asked_out, tree, wrong)
                self.assertRaisesExact(Unfit(), asked_out, tree, wrong[::-1])
