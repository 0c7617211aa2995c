"""Lots, and what goes with them: points A7, A8, A10."""

import random

from onescale.lots import counts, goes, going_ways, lot_error
from tests.support import (
    ANY_VALUES, BIG, HALF, SMALL_TREES, STAIRS, Case, all_ways, large_trees, leaves, lots_of, plain_goes, put_to)


def plain_lot_error(value):
    """By the words of A8."""
    if type(value) is not tuple or len(value) > 100:
        return "form"
    wrong = [place for place, item in enumerate(value) if type(item) is not int or item not in range(100)]
    if wrong:
        return ("button", wrong[0])
    wrong = [place for place in range(1, len(value)) if not value[place] > value[place - 1]]
    return ("order", wrong[0]) if wrong else None


class LotError(Case):

    def test_lots(self):
        for lot in ((), (0,), (99,), (0, 99), (3, 4, 50), tuple(range(100)), tuple(range(0, 100, 7))):
            self.assertExact(lot_error(lot), None)

    def test_wrong_ones(self):
        rows = [
            ([], "form"), ([0, 1], "form"), (None, "form"), (0, "form"), ("", "form"), ({}, "form"), (True, "form"),
            (tuple(range(101)), "form"), ((0,) * 101, "form"), ((0,) * 100, ("order", 1)), ((BIG,) * 101, "form"),
            (tuple(range(99)) + (100,), ("button", 99)), ((100,), ("button", 0)), ((-1, 0), ("button", 0)),
            ((BIG,), ("button", 0)), ((0, BIG), ("button", 1)), ((True,), ("button", 0)), ((False, 1), ("button", 0)),
            ((0, True), ("button", 1)), ((0, "1"), ("button", 1)), ((0, None), ("button", 1)), (((),), ("button", 0)),
            ((1, 0), ("order", 1)), ((0, 0), ("order", 1)), ((0, 2, 1, 0), ("order", 2)), ((0, 1, 1), ("order", 2)),
            ((1, 0, 100), ("button", 2)), ((3, 3, 0, True, None), ("button", 3)), ((5, 4, (0,)), ("button", 2)),
        ]
        for value, wanted in rows:
            self.assertExact(lot_error(value), wanted, value)

    def test_any_value(self):
        for value in ANY_VALUES:
            self.assertExact(lot_error(value), plain_lot_error(value))
            self.assertLeavesAsItIs(lot_error, value)

    def test_equal_values_are_told_apart(self):
        self.assertExact([lot_error((0, 1)), lot_error((0, True)), lot_error((False, 1)), lot_error((0, 1))],
                         [None, ("button", 1), ("button", 0), None])


class Going(Case):

    def check(self, tree, lot):
        rows = all_ways(tree)
        going = tuple([way for way, part in rows if plain_goes(part, lot)])
        numbers = tuple([(way, sum(1 for inner in part[1] if plain_goes(inner, lot)))
                         for way, part in rows if isinstance(part, tuple)])
        self.assertExact(goes(tree, lot), plain_goes(tree, lot))
        self.assertExact(going_ways(tree, lot), going, (tree, lot))
        self.assertExact(counts(tree, lot), numbers, (tree, lot))

    def test_small_trees_with_all_lots(self):
        for tree in SMALL_TREES:
            for lot in lots_of(leaves(tree)):
                self.check(tree, lot)

    def test_further_buttons_make_no_difference(self):
        for tree in SMALL_TREES[::11]:
            further = [button for button in (0, 1, 2, 50, 98, 99) if button not in leaves(tree)][:2]
            for lot in lots_of(leaves(tree)):
                for more in (further, further[:1]):
                    longer = put_to(lot, *more)
                    self.check(tree, longer)
                    self.assertExact(goes(tree, longer), goes(tree, lot))
                    self.assertExact(going_ways(tree, longer), going_ways(tree, lot))
                    self.assertExact(counts(tree, longer), counts(tree, lot))

    def test_large_trees(self):
        rng = random.Random(3)
        for tree in large_trees():
            for chance in (0.1, 0.3, 0.5, 0.7, 0.9):
                self.check(tree, tuple([button for button in range(100) if rng.random() < chance]))
            self.check(tree, tuple(range(100)))
            self.check(tree, ())

    def test_at_the_bound(self):
        for size in range(25):
            self.assertExact(goes(HALF, tuple(range(size))), size >= 12)
        self.assertExact(counts(HALF, tuple(range(11))), (((), 11),))
        self.assertExact(goes(STAIRS, tuple(range(12))), True)

    def test_buttons(self):
        for button in (0, 1, 5, 99):
            self.assertExact(goes(button, (button,)), True)
            self.assertExact(goes(button, ()), False)
            self.assertExact(goes(button, tuple([other for other in range(100) if other != button])), False)
            self.assertExact(going_ways(button, (button,)), ((),))
            self.assertExact(going_ways(button, ()), ())
            self.assertExact(counts(button, (button,)), ())

    def test_what_goes_goes_with_more(self):
        for tree in SMALL_TREES:
            buttons = leaves(tree)
            for lot in lots_of(buttons):
                here = going_ways(tree, lot)
                for button in buttons:
                    if button not in lot:
                        longer = put_to(lot, button)
                        self.assertTrue(goes(tree, longer) or not goes(tree, lot))
                        self.assertFalse([way for way in here if way not in going_ways(tree, longer)])

    def test_all_and_none(self):
        for tree in SMALL_TREES + large_trees():
            self.assertExact(goes(tree, tuple(sorted(leaves(tree)))), True)
            self.assertExact(goes(tree, ()), False)
            self.assertExact(going_ways(tree, ()), ())
