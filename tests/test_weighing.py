"""Sums of lots that go and that fail: point E5."""

import itertools
import random

from onescale.errors import Unfit
from onescale.nests import is_nest, scale_of
from onescale.weighing import greatest_failing, least_going, weights_hold
from tests.support import (
    ANY_VALUES, BIG, HALF, SMALL_TREES, Case, all_scales, exact, large_trees, leaves, lots_of, plain_goes,
    plain_scale_goes, random_scale, some_nests)

TWO = (2, (0, 1, (1, (2, 3))))
APART = (1, ((2, (0, 1)), (2, (2, 3))))
ROWS = ((0, 2), (1, 2), (2, 1), (3, 1))


def plain_sums(tree, rows):
    """The least sum of a lot that goes, and the greatest of one that fails, over all lots."""
    weights = dict(rows)
    sums = {True: [], False: []}
    for lot in lots_of(leaves(tree)):
        sums[plain_goes(tree, lot)].append(sum(weights[button] for button in lot))
    return [min(sums[True]), max(sums[False])]


def sums_by_parts(thing, weights):
    """The pairs (goes, sum) of all lots of a thing's buttons, put together part by part, each once."""
    if isinstance(thing, int):
        return {(True, weights[thing]), (False, 0)}
    rows = {(0, 0)}
    for part in thing[1]:
        found = sums_by_parts(part, weights)
        rows = {(number + goes, total + more) for number, total in rows for goes, more in found}
    return {(number >= thing[0], total) for number, total in rows}


def trees_of_24():
    """Trees of 24 buttons that are no nests."""
    pairs = [(2, (2 * k, 2 * k + 1)) for k in range(12)]
    found = [(6, tuple(pairs)), (1, tuple(pairs)), (12, tuple([(1, parts) for _, parts in pairs]))]
    found.append((2, tuple([(k + 1, tuple(range(6 * k, 6 * k + 6))) for k in range(4)])))
    found.append((1, ((3, (0, 1, 2, (2, (3, 4, 5, (2, (6, 7)), (2, (8, 9, 10)))))), (2, tuple(range(11, 24))))))
    deep = (1, ((2, (20, 21)), (2, (22, 23))))
    for level in range(10):
        deep = (1 + level % 3, (2 * level, 2 * level + 1, deep))
    return found + [deep] + [tree for tree in large_trees() if not is_nest(tree) and len(leaves(tree)) == 24]


class Sums(Case):

    def test_small_trees(self):
        rng = random.Random(5)
        for tree in SMALL_TREES:
            buttons = leaves(tree)
            for most in (1, 4, 99999):
                rows, _ = random_scale(rng, buttons, most)
                self.assertExact([least_going(tree, rows), greatest_failing(tree, rows)], plain_sums(tree, rows), tree)

    def test_weights_at_their_bounds(self):
        for tree in SMALL_TREES[::20]:
            buttons = sorted(leaves(tree))
            for weight in (0, 1, 99999):
                rows = tuple([(button, weight) for button in buttons])
                self.assertExact([least_going(tree, rows), greatest_failing(tree, rows)], plain_sums(tree, rows))
        for weights in itertools.product((0, 99999), repeat=4):
            rows = tuple(zip(range(4), weights))
            for tree in (TWO, APART):
                self.assertExact([least_going(tree, rows), greatest_failing(tree, rows)], plain_sums(tree, rows))

    def test_single_buttons(self):
        for weight in (0, 1, 99999):
            self.assertExact([least_going(7, ((7, weight),)), greatest_failing(7, ((7, weight),))], [weight, 0])
            self.assertExact([least_going((1, (7,)), ((7, weight),)), greatest_failing((1, (7,)), ((7, weight),))], [weight, 0])

    def test_trees_of_24_buttons_that_are_no_nests(self):
        rng = random.Random(6)
        trees = trees_of_24()
        self.assertGreater(len(trees), 8)
        for tree in trees:
            self.assertExact([is_nest(tree), len(leaves(tree))], [False, 24])
            for choice in ((1,), (0, 1), (1, 2, 3), (0, 99999), (99998, 99999), range(10)):
                rows = tuple([(button, rng.choice(choice)) for button in sorted(leaves(tree))])
                sums = sums_by_parts(tree, dict(rows))
                self.assertExact(least_going(tree, rows), min(total for goes, total in sums if goes))
                self.assertExact(greatest_failing(tree, rows), max(total for goes, total in sums if not goes))

    def test_great_nests(self):
        for tree in some_nests():
            rows, bound = scale_of(tree)
            self.assertExact([least_going(tree, rows), greatest_failing(tree, rows)], [bound, bound - 1])
        rows = tuple([(button, button) for button in range(24)])
        self.assertExact([least_going(HALF, rows), greatest_failing(HALF, rows)], [66, sum(range(13, 24))])

    def test_other_buttons(self):
        for function in (least_going, greatest_failing):
            for rows in (ROWS[:3], ROWS[1:], ROWS + ((4, 1),), ((0, 2), (1, 2), (2, 1), (4, 1)), ((9, 1),), ROWS + ((99, 0),)):
                self.assertRaisesExact(Unfit(), function, TWO, rows)
                self.assertRaisesExact(Unfit(), function, APART, rows)
            self.assertRaisesExact(Unfit(), function, 7, ((6, 1),))
            self.assertRaisesExact(Unfit(), function, 7, ((6, 1), (7, 1)))
            self.assertRaisesExact(Unfit(), function, HALF, tuple([(button, 1) for button in range(23)]))
            self.assertRaisesExact(Unfit(), function, HALF, tuple([(button, 1) for button in range(1, 25)]))


class WeightsHold(Case):

    def test_all_scales_of_three_buttons(self):
        scales = list(all_scales((0, 4, 9), 3))
        for tree in [tree for tree in SMALL_TREES if sorted(leaves(tree)) == [0, 4, 9]][::5]:
            states = [plain_goes(tree, lot) for lot in lots_of((0, 4, 9))]
            for scale in scales:
                wanted = [plain_scale_goes(scale, lot) for lot in lots_of((0, 4, 9))] == states
                self.assertExact(weights_hold(tree, scale), wanted, (tree, scale))

    def test_bounds_of_the_nest(self):
        for tree in [tree for tree in SMALL_TREES[::7] + some_nests() if is_nest(tree)]:
            rows, bound = scale_of(tree)
            self.assertExact([weights_hold(tree, (rows, bound + more)) for more in (-1, 0, 1)], [False, True, False])
            double = tuple([(button, 2 * weight) for button, weight in rows])
            self.assertExact([weights_hold(tree, (double, 2 * bound - less)) for less in (-1, 0, 1, 2)],
                             [False, True, True, False])
            lighter = ((rows[0][0], rows[0][1] - 1),) + rows[1:]
            self.assertFalse([one for one in range(bound + 2) if weights_hold(tree, (lighter, one))])

    def test_trees_that_are_no_nests(self):
        rng = random.Random(8)
        for tree in [tree for tree in SMALL_TREES + trees_of_24() if not is_nest(tree)]:
            for most in (1, 3, 99999):
                rows, bound = random_scale(rng, leaves(tree), most)
                self.assertExact(weights_hold(tree, (rows, bound)), False)
                if 1 <= least_going(tree, rows) <= sum(weight for _, weight in rows):
                    self.assertExact(weights_hold(tree, (rows, least_going(tree, rows))), False)

    def test_weights_at_their_bounds(self):
        tree = (2, (0, 1))
        self.assertExact(weights_hold(tree, (((0, 99999), (1, 99999)), 199998)), True)
        self.assertExact(weights_hold(tree, (((0, 99999), (1, 99999)), 100000)), True)
        self.assertExact(weights_hold(tree, (((0, 99999), (1, 99999)), 99999)), False)
        self.assertExact(weights_hold(tree, (((0, 100000), (1, 99999)), 199999)), False)
        self.assertExact(weights_hold(tree, (((0, 1), (1, 0)), 1)), False)
        self.assertExact(weights_hold(5, (((5, 99999),), 99999)), True)
        self.assertExact(weights_hold(5, (((5, 100000),), 100000)), False)
        self.assertExact(weights_hold(5, (((5, 0),), 0)), False)

    def test_wrong_values(self):
        for wrong in (ROWS, (ROWS,), (ROWS, 3, 3), [ROWS, 3], (list(ROWS), 3), (ROWS, True), (ROWS, None), (ROWS, "3"),
                      (ROWS, BIG), (ROWS, 0), (ROWS, -3), (ROWS, 7), (ROWS[::-1], 3), (ROWS[:3], 3), (ROWS + ((9, 0),), 3),
                      (((0, 2), (True, 2), (2, 1), (3, 1)), 3), (((False, 2), (1, 2), (2, 1), (3, 1)), 3),
                      (((0, 2), (1, 2), (2, True), (3, 1)), 3), (((0, 2), (1, 2), (2, 1), (3, 1, 1)), 3),
                      (((0, 2), (1, 2), [2, 1], (3, 1)), 3), (((0, 2), (1, 2), (2, 1), (3, 1), (3, 1)), 3), (3, ROWS)):
            self.assertExact(weights_hold(TWO, wrong), False, wrong)
        self.assertExact(weights_hold(TWO, (ROWS, 3)), True)

    def test_any_value(self):
        held = [exact((((0, 1),), 1)), exact((((5, 1),), 1))]
        for tree in (0, 5, 1, TWO, APART, HALF):
            for value in ANY_VALUES:
                wanted = tree in (0, 5) and exact(value) == held[tree == 5]
                self.assertExact(weights_hold(tree, value), wanted, (tree, value))
                self.assertLeavesAsItIs(weights_hold, tree, value)
