"""What settles a tree, and what shows a lot: points K1 to K4."""

import itertools
import math
import random

from onescale.contraries import contrary
from onescale.errors import Unfit
from onescale.looks import settled, shown, shown_count, shown_holds, shown_size
from onescale.lots import goes, lot_error
from onescale.stuck import left
from onescale.told import told
from tests.support import (
    ANY_VALUES, BIG, HALF, SMALL_TREES, STAIRS, WELL, Case, large_trees, leaves, lots_of, plain_goes, plain_least)
from tests.test_stuck import deals

TREE = (2, (0, (1, (3, 4)), 7))


def plain_settled(tree, on, off):
    """By all lots of the tree's buttons that have all of on and none of off."""
    free = [button for button in leaves(tree) if button not in on + off]
    states = set(plain_goes(tree, lot + on) for lot in lots_of(free))
    return states.pop() if len(states) == 1 else None


def shows(tree, lot, buttons):
    """Whether the states of these buttons alone settle the tree."""
    on = tuple([button for button in buttons if button in lot])
    return plain_settled(tree, on, tuple([button for button in buttons if button not in lot])) is not None


def plain_shown(tree, lot):
    """All ascending tuples of as few buttons as can be that show a lot."""
    for size in range(len(leaves(tree)) + 1):
        found = [buttons for buttons in itertools.combinations(sorted(leaves(tree)), size) if shows(tree, lot, buttons)]
        if found:
            return found


def by_recursion(thing, lot):
    """shown_size and shown_count by the words of K4, the count by all choices of parts."""
    if isinstance(thing, int):
        return 1, 1
    does = plain_goes(thing, lot)
    needed = thing[0] if does else len(thing[1]) - thing[0] + 1
    rows = [by_recursion(part, lot) for part in thing[1] if plain_goes(part, lot) == does]
    least = sum(sorted(size for size, _ in rows)[:needed])
    return least, sum(math.prod(number for _, number in chosen) for chosen in itertools.combinations(rows, needed)
                      if sum(size for size, _ in chosen) == least)


class Settled(Case):

    def test_small_trees(self):
        for tree in SMALL_TREES[::2]:
            for on, off in deals(leaves(tree)[:4]):
                self.assertExact(settled(tree, on, off), plain_settled(tree, on, off), (tree, on, off))

    def test_great_trees(self):
        rng = random.Random(1)
        for tree in large_trees():
            buttons = sorted(leaves(tree))
            self.assertExact(settled(tree, (), ()), None)
            self.assertExact(settled(tree, tuple(buttons), ()), True)
            self.assertExact(settled(tree, (), tuple(buttons)), False)
            for _ in range(20):
                states = [rng.choice(("on", "off", "free")) for _ in buttons]
                on = tuple([button for button, state in zip(buttons, states) if state == "on"])
                off = tuple([button for button, state in zip(buttons, states) if state == "off"])
                rest = tuple([button for button in buttons if button not in off])
                wanted = True if plain_goes(tree, on) else None if plain_goes(tree, rest) else False
                self.assertExact(settled(tree, on, off), wanted)

    def test_half(self):
        self.assertExact([settled(HALF, tuple(range(11)), ()), settled(HALF, tuple(range(12)), ())], [None, True])
        self.assertExact([settled(HALF, (), tuple(range(12))), settled(HALF, (), tuple(range(13)))], [None, False])

    def test_buttons(self):
        for button in (0, 1, 99):
            for tree in (button, (1, (button,))):
                self.assertExact([settled(tree, (), ()), settled(tree, (button,), ()), settled(tree, (), (button,))],
                                 [None, True, False])
                self.assertExact(settled(tree, (50,), (51,)), None)

    def test_further_buttons_make_no_difference(self):
        for tree in SMALL_TREES[::9]:
            for on, off in deals([button for button in leaves(tree) if button != 99][:3]):
                self.assertExact(settled(tree, on + (97,), off + (98,)), settled(tree, on, off))

    def test_buttons_in_both(self):
        everything = tuple(range(100))
        for tree in SMALL_TREES[::20] + large_trees():
            for on, off in (((0,), (0,)), ((98,), (98,)), (everything, (77,)), ((77,), everything), ((1, 50), (2, 50)),
                            (everything, everything)):
                self.assertRaisesExact(Unfit(), settled, tree, on, off)
            # Also where the rest settles the tree.
            buttons = tuple(sorted(leaves(tree)))
            self.assertRaisesExact(Unfit(), settled, tree, buttons, buttons[:1])

    def test_left(self):
        for tree in SMALL_TREES[::3]:
            for on, off in deals(leaves(tree)[:3]):
                rest = left(tree, on, off)
                self.assertExact(settled(tree, on, off), rest if isinstance(rest, bool) else None)


class Shown(Case):

    def check(self, tree, lot, tuples):
        found = shown(tree, lot)
        self.assertExact(lot_error(found), None)
        self.assertIn(found, tuples, (tree, lot))
        self.assertExact(shown(tree, lot), found)
        self.assertExact([shown_size(tree, lot), shown_count(tree, lot)], [len(tuples[0]), len(tuples)], (tree, lot))

    def test_small_trees(self):
        for tree in [tree for tree in SMALL_TREES if len(leaves(tree)) <= 4][::2] + SMALL_TREES[-100::5]:
            for lot in lots_of(leaves(tree)):
                self.check(tree, lot, plain_shown(tree, lot))

    def test_holds_for_all_tuples_of_buttons(self):
        for tree in [tree for tree in SMALL_TREES if len(leaves(tree)) <= 4][::3] + SMALL_TREES[-40::5]:
            further = [button for button in (60, 61) if button not in leaves(tree)][:1]
            for lot in lots_of(leaves(tree))[::2]:
                wanted = plain_shown(tree, lot)
                for value in lots_of(leaves(tree) + further):
                    self.assertExact(shown_holds(tree, lot, value), value in wanted, (tree, lot, value))
                    if len(value) > 1:
                        self.assertExact(shown_holds(tree, lot, value[::-1]), False)
                        self.assertExact(shown_holds(tree, lot, value + value[-1:]), False)
                    self.assertExact(shown_holds(tree, lot, list(value)), False)

    def test_least_lots_and_stop_lots(self):
        # K4, first sentence.
        for tree in SMALL_TREES[::2]:
            least, stops = plain_least(tree), plain_least(contrary(tree))
            for lot in lots_of(leaves(tree)):
                if plain_goes(tree, lot):
                    fitting = [other for other in least if set(other) <= set(lot)]
                else:
                    fitting = [other for other in stops if not set(other) & set(lot)]
                fewest = min(len(other) for other in fitting)
                self.check(tree, lot, [other for other in fitting if len(other) == fewest])

    def test_recursion(self):
        # K4, second sentence; trees with trips of one part, too.
        for tree in SMALL_TREES:
            for lot in lots_of(leaves(tree)):
                self.assertExact((shown_size(tree, lot), shown_count(tree, lot)), by_recursion(tree, lot))

    def test_great_trees(self):
        rng = random.Random(2)
        for tree in large_trees()[5:] + [STAIRS, WELL]:
            for chance in (0, 0.3, 0.5, 0.7, 1):
                lot = tuple(sorted(button for button in leaves(tree) if rng.random() < chance))
                size, number = by_recursion(tree, lot)
                self.assertExact([shown_size(tree, lot), shown_count(tree, lot)], [size, number])
                found = shown(tree, lot)
                self.assertExact(len(found), size)
                on = tuple([button for button in found if button in lot])
                off = tuple([button for button in found if button not in lot])
                self.assertExact(settled(tree, on, off), plain_goes(tree, lot))
                self.assertExact(shown_holds(tree, lot, found), True)
                # No button of it is too many.
                for place in range(size):
                    self.assertExact(shown_holds(tree, lot, found[:place] + found[place + 1:]), False)
                for other in leaves(tree):
                    if other not in found:
                        self.assertExact(shown_holds(tree, lot, tuple(sorted(found + (other,)))), False)

    def test_one_trip_of_24(self):
        buttons = tuple(range(24))
        for many in range(25):
            wanted = (12, math.comb(many, 12)) if many >= 12 else (13, math.comb(24 - many, 13))
            self.assertExact((shown_size(HALF, buttons[:many]), shown_count(HALF, buttons[:many])), wanted)
        self.assertExact([shown_count((1, buttons), ()), shown_count((1, buttons), buttons), shown_size((1, buttons), ())],
                         [1, 24, 24])
        self.assertExact([shown_count((24, buttons), ()), shown_count((24, buttons), buttons)], [24, 1])

    def test_buttons(self):
        for button in (0, 1, 99):
            for tree in (button, (1, (button,))):
                for lot in ((), (button,), (50,)):
                    self.assertExact([shown(tree, lot), shown_size(tree, lot), shown_count(tree, lot)], [(button,), 1, 1])
                    self.assertExact([shown_holds(tree, lot, value) for value in ((button,), (), (50,), button, [button])],
                                     [True, False, False, False, False])

    def test_further_buttons_make_no_difference(self):
        for tree in [tree for tree in SMALL_TREES if 99 not in leaves(tree)][::9]:
            for lot in lots_of(leaves(tree))[::3]:
                for function in (shown, shown_size, shown_count):
                    self.assertExact(function(tree, lot + (99,)), function(tree, lot))

    def test_any_value(self):
        for tree, lot in ((TREE, (0, 3, 4)), (TREE, ()), (5, (5,)), (1, (1,)), ((1, (0, 1)), (1,)), (HALF, ()),
                          ((2, (0, 1)), (0, 1, 99)), (STAIRS, (0, 3))):
            wanted = plain_shown(tree, lot) if tree != HALF else []
            for value in ANY_VALUES:
                right = type(value) is tuple and all(type(item) is int for item in value) and value in wanted
                self.assertExact(shown_holds(tree, lot, value), right, (tree, value))
                self.assertLeavesAsItIs(shown_holds, tree, lot, value)

    def test_true_is_not_1(self):
        self.assertExact([shown_holds((1, (0, 1)), (1,), value) for value in ((1,), (True,), (0, 1), (False, True))],
                         [True, False, False, False])
        self.assertExact([shown_holds((1, (0, 1)), (), value) for value in ((0, 1), (0, True), (False, 1), (False, True))],
                         [True, False, False, False])
        self.assertExact([shown_holds(1, (), value) for value in ((1,), (True,), 1, True, (BIG,), (-1,), ("1",), ((1,),))],
                         [True] + [False] * 7)

    def test_alike_trees(self):
        for tree in SMALL_TREES[::3]:
            for lot in lots_of(leaves(tree))[::2]:
                self.assertExact([shown_size(told(tree), lot), shown_count(told(tree), lot)],
                                 [shown_size(tree, lot), shown_count(tree, lot)])
                self.assertExact(shown_holds(told(tree), lot, shown(tree, lot)), True)
                self.assertExact(goes(tree, lot), plain_goes(tree, lot))
