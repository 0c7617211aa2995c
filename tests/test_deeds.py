"""Deeds on trees: points M1 to M6."""

import itertools
import random

from onescale.deeds import as_one, bounded, dissolved, exchanged, put, taken_out
from onescale.errors import NoButton, NoPart, Taken, TooMany, Unfit
from onescale.told import alike
from onescale.trips import tree_error
from tests.support import (
    ANY_VALUES, BIG, HALF, SMALL_TREES, STAIRS, WELL, Case, all_ways, exact, large_trees, leaves, lots_of, plain_goes)

TREE = (2, (0, (1, (3, 4)), 7))
WRONG_BUTTONS = [-1, 100, BIG, -BIG, True, False, None, "5", (5,), [5], (1, (5,))]
WRONG_WAYS = [None, 0, True, [], [1], "", "()", {}, (True,), (False,), (None,), ("0",), ((0,),), ([0],), (-1,), (24,), (BIG,),
              (-BIG,), (0,) * 13, (0,) * 6000]


# Deeds done on lists that are changed, to compare with.

def to_lists(thing):
    return thing if isinstance(thing, int) else [thing[0], [to_lists(part) for part in thing[1]]]


def to_tuples(thing):
    return thing if isinstance(thing, int) else (thing[0], tuple([to_tuples(part) for part in thing[1]]))


def at(lists, way):
    for place in way:
        lists = lists[1][place]
    return lists


def plain_put(tree, way, button):
    lists = to_lists(tree)
    at(lists, way)[1].append(button)
    return to_tuples(lists)


def plain_taken_out(thing, button):
    """The thing without the button, None if nothing is left."""
    if isinstance(thing, int):
        return None if thing == button else thing
    parts = [plain_taken_out(part, button) for part in thing[1]]
    parts = tuple([part for part in parts if part is not None])
    return (min(thing[0], len(parts)), parts) if parts else None


def plain_bounded(tree, way, k):
    lists = to_lists(tree)
    at(lists, way)[0] = k
    return to_tuples(lists)


def plain_dissolved(tree, way):
    lists = to_lists(tree)
    around = at(lists, way[:-1])[1]
    around[way[-1]:way[-1] + 1] = around[way[-1]][1]
    return to_tuples(lists)


def plain_as_one(tree, way, button):
    if way == ():
        return button
    lists = to_lists(tree)
    at(lists, way[:-1])[1][way[-1]] = button
    return to_tuples(lists)


def plain_exchanged(thing, one, other):
    if isinstance(thing, int):
        return {one: other, other: one}.get(thing, thing)
    return (thing[0], tuple([plain_exchanged(part, one, other) for part in thing[1]]))


def trip_ways(tree):
    return [way for way, part in all_ways(tree) if isinstance(part, tuple)]


def button_ways(tree):
    return [way for way, part in all_ways(tree) if isinstance(part, int)]


def further(tree, many=1):
    """Buttons that do not stand in the tree."""
    return [button for button in range(100) if button not in leaves(tree)][:many]


SOME_TREES = SMALL_TREES[::3]
GREAT_TREES = large_trees() + [STAIRS, WELL]


class Deeds(Case):
    """Each deed as it should be done, on small trees and on great ones."""

    def check(self, wanted, function, tree, *args):
        found = function(tree, *args)
        self.assertExact(found, wanted, (tree, args))
        self.assertExact(tree_error(found), None)
        self.assertLeavesAsItIs(function, tree, *args)

    def test_put(self):
        for tree in SOME_TREES + GREAT_TREES:
            button = further(tree)[0]
            for way in trip_ways(tree):
                if len(leaves(tree)) < 24:
                    self.check(plain_put(tree, way, button), put, tree, way, button)
                else:
                    self.assertRaisesExact(TooMany(24), put, tree, way, button)

    def test_taken_out(self):
        for tree in SOME_TREES + GREAT_TREES:
            for button in leaves(tree):
                if len(leaves(tree)) > 1:
                    self.check(plain_taken_out(tree, button), taken_out, tree, button)
                else:
                    self.assertRaisesExact(Unfit(), taken_out, tree, button)

    def test_bounded(self):
        for tree in SOME_TREES + GREAT_TREES:
            for way, part in all_ways(tree):
                if isinstance(part, tuple):
                    for k in range(1, len(part[1]) + 1):
                        self.check(plain_bounded(tree, way, k), bounded, tree, way, k)

    def test_dissolved(self):
        for tree in SOME_TREES + GREAT_TREES:
            for way in trip_ways(tree)[1:]:
                self.check(plain_dissolved(tree, way), dissolved, tree, way)

    def test_as_one(self):
        for tree in SOME_TREES + GREAT_TREES:
            button = further(tree)[0]
            for way, part in all_ways(tree):
                for one in [button, 99] + leaves(part)[:3] if 99 not in leaves(tree) else [button] + leaves(part)[:3]:
                    self.check(plain_as_one(tree, way, one), as_one, tree, way, one)

    def test_exchanged(self):
        for tree in SOME_TREES + GREAT_TREES:
            for one, other in itertools.product(leaves(tree)[:6], leaves(tree)[-4:]):
                self.check(plain_exchanged(tree, one, other), exchanged, tree, one, other)


class Errors(Case):
    """Wrong inputs, and which error is the first."""

    def with_ways(self):
        """Calls (function, what stands behind the way when it is right) of the deeds with a way."""
        for button in (60, 3, 100, None):
            yield put, (button,)
            yield as_one, (button,)
        for k in (1, 0, 99, None, True):
            yield bounded, (k,)
        yield dissolved, ()

    def test_no_way(self):
        for tree in (TREE, 5, (1, (0,)), STAIRS, HALF, SMALL_TREES[400]):
            for way in WRONG_WAYS + ANY_VALUES:
                if type(way) is tuple and exact(way) in [exact(right) for right, _ in all_ways(tree)]:
                    continue
                for function, rest in self.with_ways():
                    self.assertRaisesExact(NoPart(way), function, tree, way, *rest)
                    self.assertLeavesAsItIs(function, tree, way, *rest)

    def test_way_to_a_button(self):
        for tree in SOME_TREES[::10] + GREAT_TREES + [TREE, 5]:
            for way in button_ways(tree):
                for function, rest in self.with_ways():
                    if function is not as_one:
                        self.assertRaisesExact(NoPart(way), function, tree, way, *rest)

    def test_dissolved_at_the_root(self):
        for tree in SOME_TREES[::10] + GREAT_TREES:
            self.assertRaisesExact(NoPart(()), dissolved, tree, ())

    def test_no_button(self):
        for value in WRONG_BUTTONS + [value for value in ANY_VALUES if type(value) is not int or not 0 <= value <= 99]:
            for tree in (TREE, 5, HALF, STAIRS):
                if tree != 5:
                    self.assertRaisesExact(Unfit(), put, tree, (), value)
                self.assertRaisesExact(Unfit(), as_one, tree, (), value)
                self.assertRaisesExact(Unfit(), taken_out, tree, value)
                for other in (leaves(tree)[0], 60, value, None):
                    self.assertRaisesExact(Unfit(), exchanged, tree, value, other)
                    self.assertRaisesExact(Unfit(), exchanged, tree, other, value)
                self.assertLeavesAsItIs(taken_out, tree, value)
                self.assertLeavesAsItIs(exchanged, tree, value, value)

    def test_bounds(self):
        for tree in (TREE, HALF, STAIRS, (1, (0,)), (3, (0, (1, (1,)), (2, (2, 3))))):
            for way, part in all_ways(tree):
                if isinstance(part, tuple):
                    many = len(part[1])
                    for k in (1, many):
                        self.assertExact(bounded(tree, way, k), plain_bounded(tree, way, k))
                    for k in [0, many + 1, -1] + [k for k in ANY_VALUES if type(k) is not int or not 1 <= k <= many]:
                        self.assertRaisesExact(Unfit(), bounded, tree, way, k)

    def test_true_is_not_1(self):
        tree = (1, (0, 1))
        self.assertRaisesExact(Unfit(), bounded, tree, (), True)
        self.assertRaisesExact(Unfit(), taken_out, tree, True)
        self.assertRaisesExact(Unfit(), exchanged, tree, 0, True)
        self.assertRaisesExact(Unfit(), exchanged, tree, False, 1)
        self.assertRaisesExact(Unfit(), put, tree, (), True)
        self.assertRaisesExact(Unfit(), as_one, tree, (1,), True)
        for function, rest in self.with_ways():
            self.assertRaisesExact(NoPart((True,)), function, (1, (0, (1, (3, 4)))), (True,), *rest)
            self.assertRaisesExact(NoPart((1, False)), function, (1, (0, (1, ((1, (3,)), 4)))), (1, False), *rest)

    def test_taken(self):
        for tree in SOME_TREES[::10] + GREAT_TREES + [TREE]:
            # Ahead of TooMany: a button of a tree of 24.
            for button in leaves(tree)[:4]:
                for way in trip_ways(tree):
                    self.assertRaisesExact(Taken(button), put, tree, way, button)
                for way, part in all_ways(tree):
                    if button in leaves(part):
                        self.assertExact(as_one(tree, way, button), plain_as_one(tree, way, button))
                    else:
                        self.assertRaisesExact(Taken(button), as_one, tree, way, button)

    def test_23_and_24_buttons(self):
        for tree in (HALF, large_trees()[5], large_trees()[9]):
            self.assertEqual(len(leaves(tree)), 24)
            last, new = leaves(tree)[-1], further(tree)[0]
            less = plain_taken_out(tree, last)
            for way in trip_ways(less):
                full = put(less, way, last)
                self.assertExact([full, tree_error(full)], [plain_put(less, way, last), None])
                self.assertRaisesExact(TooMany(24), put, full, way, new)
                self.assertRaisesExact(Taken(last), put, full, way, last)
                self.assertRaisesExact(Unfit(), put, full, way, 100)
                self.assertRaisesExact(NoPart(way + (99,)), put, full, way + (99,), last)
            # No other deed makes a tree greater.
            self.assertExact(as_one(tree, (0,), new), plain_as_one(tree, (0,), new))

    def test_no_such_button(self):
        for tree in SOME_TREES[::10] + GREAT_TREES + [TREE, 5, (1, (5,))]:
            mine, (new, other) = leaves(tree)[0], further(tree, 2)
            self.assertRaisesExact(NoButton(new), taken_out, tree, new)
            self.assertRaisesExact(NoButton(new), exchanged, tree, new, mine)
            self.assertRaisesExact(NoButton(new), exchanged, tree, mine, new)
            self.assertRaisesExact(NoButton(new), exchanged, tree, new, other)
            self.assertRaisesExact(NoButton(other), exchanged, tree, other, new)
            self.assertRaisesExact(NoButton(new), exchanged, tree, new, new)

    def test_the_only_button(self):
        for button in (0, 1, 99):
            for tree in (button, (1, (button,)), (1, ((1, (button,)),))):
                self.assertRaisesExact(Unfit(), taken_out, tree, button)
                self.assertRaisesExact(NoButton(50), taken_out, tree, 50)
                self.assertRaisesExact(Unfit(), taken_out, tree, 100)
                self.assertExact(exchanged(tree, button, button), tree)

    def test_single_buttons(self):
        self.assertRaisesExact(NoPart(()), put, 5, (), 6)
        self.assertRaisesExact(NoPart(()), bounded, 5, (), 1)
        self.assertRaisesExact(NoPart(()), dissolved, 5, ())
        self.assertExact([as_one(5, (), 5), as_one(5, (), 6), as_one((1, (5,)), (), 5), as_one((1, (5,)), (0,), 5)],
                         [5, 6, 5, (1, (5,))])


class DeepTrees(Case):

    def test_stairs(self):
        # A trip nested as deep as can be gets a further part, is dissolved, and is left without parts.
        self.assertEqual(max(len(way) for way, _ in all_ways(STAIRS)), 12)
        deepest = (0,) + (1,) * 10
        self.assertExact(tree_error(put(STAIRS, deepest, 77)), None)
        self.assertExact(put(STAIRS, deepest, 77), plain_put(STAIRS, deepest, 77))
        self.assertExact(dissolved(STAIRS, deepest), plain_dissolved(STAIRS, deepest))
        self.assertExact(taken_out(STAIRS, 11), plain_taken_out(STAIRS, 11))

    def test_well(self):
        # The one button within trips of one part is taken out with all of them.
        self.assertExact(taken_out(WELL, 0), (2, (50, 51)))
        self.assertExact(taken_out((3, (50, WELL[1][1], 51)), 0), (2, (50, 51)))
        self.assertExact(taken_out((1, (WELL,)), 0), (1, ((2, (50, 51)),)))
        self.assertExact(taken_out(WELL, 50), (2, (WELL[1][1], 51)))
        self.assertExact(taken_out((2, (WELL[1][1], 51)), 51), (1, (WELL[1][1],)))


class WhatHolds(Case):

    def test_put_and_taken_out(self):
        for tree in SOME_TREES + GREAT_TREES:
            if len(leaves(tree)) < 24:
                button = further(tree)[0]
                for way in trip_ways(tree):
                    self.assertExact(taken_out(put(tree, way, button), button), tree)

    def going(self, tree, buttons):
        return set(lot for lot in lots_of(buttons) if plain_goes(tree, lot))

    def test_bounds_raised_and_lowered(self):
        for tree in SOME_TREES:
            now = self.going(tree, leaves(tree))
            for way, part in all_ways(tree):
                if isinstance(part, tuple):
                    for k in range(1, len(part[1]) + 1):
                        then = self.going(bounded(tree, way, k), leaves(tree))
                        self.assertTrue(then <= now if k >= part[0] else now <= then)

    def test_taken_out_goes_with_as_much(self):
        for tree in SOME_TREES:
            for button in leaves(tree) if len(leaves(tree)) > 1 else []:
                others = [other for other in leaves(tree) if other != button]
                self.assertTrue(self.going(tree, others) <= self.going(taken_out(tree, button), others))

    def test_one_of_in_one_of(self):
        checked = 0
        for tree in SMALL_TREES:
            parts = dict(all_ways(tree))
            for way in trip_ways(tree)[1:]:
                if parts[way][0] == 1 and parts[way[:-1]][0] == 1:
                    checked += 1
                    self.assertExact(self.going(dissolved(tree, way), leaves(tree)), self.going(tree, leaves(tree)))
                    self.assertExact(alike(dissolved(tree, way), tree), True)
        self.assertGreater(checked, 100)

    def test_exchanged_twice(self):
        rng = random.Random(31)
        for tree in SOME_TREES:
            one, other = rng.choice(leaves(tree)), rng.choice(leaves(tree))
            found = exchanged(tree, one, other)
            self.assertExact(exchanged(found, one, other), tree)
            self.assertExact(exchanged(found, other, one), tree)
            for lot in lots_of(leaves(tree)):
                there = tuple([{one: other, other: one}.get(button, button) for button in lot])
                self.assertExact(plain_goes(found, lot), plain_goes(tree, there))
