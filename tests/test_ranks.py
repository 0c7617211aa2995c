"""Which button is no worse than which: points D1 to D5."""

import itertools
import math

from onescale.contraries import contrary
from onescale.errors import NoButton
from onescale.goingcounts import going_count
from onescale.lots import goes, lot_error
from onescale.ranks import above, alike_buttons, gain, is_chain, no_worse, worse_lot
from onescale.told import told
from onescale.trips import part_at, way_to
from tests.support import (
    ANY_VALUES, BIG, HALF, SMALL_TREES, STAIRS, WELL, Case, all_ways, large_trees, leaves, lots_of, plain_goes, put_to)

GATE = (2, ((2, (0, 1)), 2, 5))
PRESS = (2, ((1, (0, 1)), (2, (2, 3)), 4))


def plain_worse_lots(tree, one, other):
    """All lots without both that go with other put to them and fail with one."""
    others = [button for button in leaves(tree) if button not in (one, other)]
    return [lot for lot in lots_of(others) if plain_goes(tree, put_to(lot, other)) and not plain_goes(tree, put_to(lot, one))]


def pairs_of(tree):
    return itertools.product(sorted(leaves(tree)), repeat=2)


def plain_ranks(tree):
    """For each pair of buttons whether one is no worse than the other."""
    return {(one, other): one == other or not plain_worse_lots(tree, one, other) for one, other in pairs_of(tree)}


class SmallTrees(Case):

    def test_all_but_gain(self):
        for tree in SMALL_TREES:
            ranks = plain_ranks(tree)
            buttons = sorted(leaves(tree))
            for one, other in pairs_of(tree):
                self.assertExact(no_worse(tree, one, other), ranks[one, other], (tree, one, other))
                lot = worse_lot(tree, one, other)
                if ranks[one, other]:
                    self.assertExact(lot, None)
                else:
                    self.assertExact(lot_error(lot), None)
                    self.assertIn(lot, plain_worse_lots(tree, one, other))
            classes = set(tuple([other for other in buttons if ranks[one, other] and ranks[other, one]]) for one in buttons)
            self.assertExact(alike_buttons(tree), tuple(sorted(classes)), tree)
            self.assertExact(above(tree), tuple([pair for pair in sorted(ranks) if ranks[pair] and not ranks[pair[::-1]]]))
            self.assertExact(is_chain(tree), all(ranks[pair] or ranks[pair[::-1]] for pair in ranks))

    def test_gain(self):
        for tree in SMALL_TREES:
            for one, other in pairs_of(tree):
                wanted = 0 if one == other else len(plain_worse_lots(tree, other, one))
                self.assertExact(gain(tree, one, other), wanted, (tree, one, other))


class WhatHolds(Case):

    def test_what_decides_it(self):
        # By the words of D3.
        for tree in SMALL_TREES + large_trees():
            plain = told(tree)
            for one, other in pairs_of(tree):
                holding = [way for way, part in all_ways(plain)
                           if isinstance(part, tuple) and one in leaves(part) and other in leaves(part)]
                lowest = max(holding, key=len) if holding else ()
                wanted = one == other or one in part_at(plain, lowest)[1]
                self.assertExact(no_worse(tree, one, other), wanted)

    def test_no_worse_goes_over(self):
        for tree in SMALL_TREES:
            for one, other, third in itertools.product(leaves(tree), repeat=3):
                if no_worse(tree, one, other) and no_worse(tree, other, third):
                    self.assertExact(no_worse(tree, one, third), True)

    def test_gain_and_rank(self):
        for tree in SMALL_TREES[::2]:
            for one, other in pairs_of(tree):
                self.assertExact(gain(tree, one, other) == 0, no_worse(tree, other, one))

    def test_gain_and_counts(self):
        for tree in SMALL_TREES[::3] + large_trees():
            for one, other in list(pairs_of(tree))[::29 if len(leaves(tree)) > 6 else 1]:
                if one != other:
                    self.assertExact(gain(tree, one, other) - gain(tree, other, one),
                                     going_count(tree, (one,), (other,)) - going_count(tree, (other,), (one,)))

    def test_alike_buttons_are_parts_of_one_trip(self):
        for tree in SMALL_TREES + large_trees():
            plain = told(tree)
            classes = {button: row for row in alike_buttons(tree) for button in row}
            for one, other in pairs_of(tree):
                self.assertExact(classes[one] == classes[other], way_to(plain, one)[:-1] == way_to(plain, other)[:-1])

    def test_chains(self):
        for tree in SMALL_TREES + large_trees():
            forks = [way for way, part in all_ways(told(tree)) if isinstance(part, tuple)
                     and len([inner for inner in part[1] if isinstance(inner, tuple)]) > 1]
            self.assertExact(is_chain(tree), not forks)

    def test_contrary_trees(self):
        for tree in SMALL_TREES + large_trees():
            self.assertExact(above(contrary(tree)), above(tree))
            self.assertExact(alike_buttons(contrary(tree)), alike_buttons(tree))
            self.assertExact(is_chain(contrary(tree)), is_chain(tree))


class LargeTrees(Case):

    def test_worse_lots(self):
        for tree in large_trees():
            for one, other in pairs_of(tree):
                lot = worse_lot(tree, one, other)
                self.assertExact(lot is None, no_worse(tree, one, other))
                if lot is not None:
                    self.assertExact(lot_error(lot), None)
                    self.assertFalse([button for button in lot if button in (one, other) or button not in leaves(tree)])
                    self.assertTrue(goes(tree, put_to(lot, other)))
                    self.assertFalse(goes(tree, put_to(lot, one)))

    def test_ranks_are_told_alike(self):
        for tree in large_trees():
            pairs = [(one, other) for one, other in pairs_of(tree)
                     if no_worse(tree, one, other) and not no_worse(tree, other, one)]
            self.assertExact(above(tree), tuple(pairs))
            self.assertExact(sorted(button for row in alike_buttons(tree) for button in row), sorted(leaves(tree)))

    def test_half(self):
        self.assertExact(alike_buttons(HALF), (HALF[1],))
        self.assertExact(above(HALF), ())
        self.assertExact(is_chain(HALF), True)
        self.assertExact(gain(HALF, 0, 23), 0)

    def test_gain(self):
        # 0 alone against one of 1 and 2: it gains where 2 is pressed and just ten of 21 others are.
        tree = (12, (0, (1, (1, 2))) + tuple(range(3, 24)))
        self.assertExact(gain(tree, 0, 1), math.comb(21, 10))
        self.assertExact(gain(tree, 1, 0), 0)
        # Both in trips of two: 0 gains where 2 is pressed and 3 is not.
        tree = (10, ((2, (0, 2)), (2, (1, 3))) + tuple(range(4, 24)))
        self.assertExact([gain(tree, 0, 1), gain(tree, 1, 0)], [math.comb(20, 9)] * 2)
        tree = (10, ((1, (0, 2)), (2, (1, 3))) + tuple(range(4, 24)))
        self.assertExact([gain(tree, 0, 1), gain(tree, 1, 0)], [math.comb(20, 9), math.comb(20, 8)])

    def test_deep_trees(self):
        self.assertExact(alike_buttons(STAIRS), tuple([(button,) for button in range(10)] + [(10, 11)]))
        self.assertExact(above(STAIRS), tuple([(one, other) for one in range(10) for other in range(one + 1, 12)]))
        self.assertExact([worse_lot(STAIRS, 11, 9), worse_lot(STAIRS, 11, 8), worse_lot(STAIRS, 1, 0)],
                         [(1, 3, 5, 7, 10), (1, 3, 5, 7), ()])
        self.assertExact([gain(STAIRS, 9, 11), gain(STAIRS, 11, 9), gain(STAIRS, 10, 11), gain(STAIRS, 0, 1)],
                         [1, 0, 0, 341])
        self.assertExact([alike_buttons(WELL), above(WELL), gain(WELL, 0, 50)], [((0, 50, 51),), (), 0])


class WrongButtons(Case):

    def test_one_is_told_first(self):
        for function in (no_worse, worse_lot, gain):
            for tree in (GATE, PRESS):
                for wrong in (9, 99, 100, -1, BIG, True, False, None, "0", (0,), [0], {}, (), (1, (0, 1))):
                    self.assertRaisesExact(NoButton(wrong), function, tree, wrong, 0)
                    self.assertRaisesExact(NoButton(wrong), function, tree, 0, wrong)
                    self.assertRaisesExact(NoButton(wrong), function, tree, wrong, wrong)
                    self.assertRaisesExact(NoButton(wrong), function, tree, wrong, 77)
                    self.assertRaisesExact(NoButton(77), function, tree, 77, wrong)

    def test_any_value(self):
        for function in (no_worse, worse_lot, gain):
            for tree in (0, 1, 5, (1, (0, 1)), GATE, STAIRS, HALF):
                known = leaves(tree)
                for value in ANY_VALUES:
                    if type(value) is int and value in known:
                        self.assertIn(type(function(tree, value, known[-1])).__name__, ("bool", "tuple", "int", "NoneType"))
                    else:
                        self.assertRaisesExact(NoButton(value), function, tree, value, known[0])
                        self.assertRaisesExact(NoButton(value), function, tree, known[0], value)
                    self.assertLeavesAsItIs(function, tree, value, known[0])

    def test_single_buttons(self):
        for button in (0, 1, 99):
            self.assertExact([no_worse(button, button, button), worse_lot(button, button, button)], [True, None])
            self.assertExact([gain(button, button, button), alike_buttons(button), above(button), is_chain(button)],
                             [0, ((button,),), (), True])
        for function in (no_worse, worse_lot, gain):
            self.assertRaisesExact(NoButton(True), function, 1, True, 1)
            self.assertRaisesExact(NoButton(False), function, 0, 0, False)
