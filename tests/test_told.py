"""Told trees: points B1, B2 and what B6 says of them."""

import random

from onescale.lots import goes
from onescale.told import alike, is_told, told
from onescale.trips import tree_error
from tests.support import HALF, SMALL_TREES, STAIRS, WELL, Case, all_ways, large_trees, leaves, lots_of, put_to, shuffled


def table(tree, buttons):
    """With which of all lots of these buttons a tree goes."""
    return tuple([goes(tree, lot) for lot in lots_of(buttons)])


def kind(trip):
    bound, parts = trip
    if len(parts) == 1:
        return "single"
    return "one-of" if bound == 1 else "all-of" if bound == len(parts) else "some-of"


def plain_is_told(tree):
    """By the words of B1."""
    for _, trip in all_ways(tree):
        if isinstance(trip, tuple):
            within = [kind(part) for part in trip[1] if isinstance(part, tuple)]
            least = [min(leaves(part)) for part in trip[1]]
            if kind(trip) == "single" or kind(trip) in ("one-of", "all-of") and kind(trip) in within:
                return False
            if least != sorted(least):
                return False
    return True


class Told(Case):

    def test_told_trees(self):
        for tree in SMALL_TREES + large_trees():
            found = told(tree)
            self.assertExact(tree_error(found), None)
            self.assertTrue(plain_is_told(found), tree)
            self.assertExact(told(found), found)
            self.assertExact(sorted(leaves(found)), sorted(leaves(tree)))

    def test_told_trees_do_the_same(self):
        for tree in SMALL_TREES:
            self.assertEqual(table(told(tree), leaves(tree)), table(tree, leaves(tree)), tree)

    def test_large_told_trees_do_the_same(self):
        rng = random.Random(2)
        for tree in large_trees():
            found = told(tree)
            for _ in range(60):
                lot = tuple(sorted(rng.sample(leaves(tree), rng.randrange(len(leaves(tree)) + 1))))
                self.assertExact(goes(found, lot), goes(tree, lot))

    def test_just_one(self):
        rows = {}
        for tree in SMALL_TREES:
            buttons = tuple(sorted(leaves(tree)))
            rows.setdefault((buttons, table(tree, buttons)), set()).add(told(tree))
        self.assertGreater(len(rows), 100)
        for found in rows.values():
            self.assertEqual(len(found), 1)

    def test_single_trees(self):
        rows = [
            (0, 0), (99, 99), ((1, (0,)), 0), ((1, ((1, ((1, (7,)),)),)), 7), (WELL, (2, (0, 50, 51))), (HALF, HALF),
            ((1, (2, 1)), (1, (1, 2))), ((1, ((1, (0, 1)), (1, (2, 3)))), (1, (0, 1, 2, 3))),
            ((2, ((2, (0, 1)), (2, (2, 3)))), (4, (0, 1, 2, 3))), ((2, ((2, (0, 1)), 2, 3)), (2, ((2, (0, 1)), 2, 3))),
            ((1, (5, (1, ((1, (4, 3)),)))), (1, (3, 4, 5))), ((2, (5, (1, ((2, (4, 3)),)))), (3, (3, 4, 5))),
            ((2, (5, (1, ((1, (4, 3)),)))), (2, ((1, (3, 4)), 5))), ((1, ((3, (6, 7, 8)), 2)), (1, (2, (3, (6, 7, 8))))),
            ((3, (9, (2, (8, (2, (7, 6)))), 5)), (5, (5, 6, 7, 8, 9))),
            ((2, (9, (2, (8, (1, (7, 6)), 1)))), (2, ((2, (1, (1, (6, 7)), 8)), 9))),
        ]
        for tree, wanted in rows:
            self.assertExact(told(tree), wanted)
        # In turn one-of and all-of: nothing is put together, only the outermost trip, of one part, is left out.
        self.assertExact(told(STAIRS), STAIRS[1][0])

    def test_is_told(self):
        for tree in SMALL_TREES + large_trees():
            self.assertExact(is_told(tree), plain_is_told(tree), tree)
            self.assertExact(is_told(told(tree)), True)
        for tree, wanted in ((0, True), (99, True), ((1, (0,)), False), ((2, (0, 1)), True), ((2, (1, 0)), False),
                             ((1, (0, (1, (1, 2)))), False), ((2, (0, (2, (1, 2)))), False), ((2, (0, (1, (1, 2)))), True),
                             ((2, (0, (2, (1, 2, 3)), 4)), True), ((1, ((2, (3, 4)), 2)), False), (WELL, False)):
            self.assertExact(is_told(tree), wanted, tree)

    def test_each_button_matters(self):
        for tree in SMALL_TREES:
            for button in leaves(tree):
                others = [other for other in leaves(tree) if other != button]
                self.assertTrue([lot for lot in lots_of(others)
                                 if not goes(tree, lot) and goes(tree, put_to(lot, button))])


class Alike(Case):

    def test_small_trees(self):
        rng = random.Random(4)
        many = 0
        for tree in SMALL_TREES:
            for other in rng.sample(SMALL_TREES, 12) + [shuffled(rng, tree)]:
                buttons = sorted(set(leaves(tree) + leaves(other)))
                if len(buttons) < 9:
                    wanted = table(tree, buttons) == table(other, buttons)
                    many += wanted
                    self.assertExact(alike(tree, other), wanted, (tree, other))
                    self.assertExact(alike(other, tree), wanted)
        self.assertGreater(many, 500)

    def test_large_trees(self):
        rng = random.Random(6)
        trees = large_trees()
        for tree in trees:
            other = shuffled(rng, tree)
            if tree_error(other) is None:
                self.assertExact(alike(tree, other), True)
                self.assertExact(told(other), told(tree))
            self.assertExact([other for other in trees if alike(tree, other)], [tree])

    def test_button_that_is_missing(self):
        self.assertExact([alike(3, 4), alike(0, 1), alike(1, (1, (1,))), alike((1, (0, 1)), (1, (0, 1, 2)))],
                         [False, False, True, False])
