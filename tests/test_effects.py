"""What deeds change: point M7."""

import itertools
import random

from onescale.deeds import bounded, dissolved, exchanged, taken_out
from onescale.effects import gained
from onescale.errors import TooMany, Unfit
from onescale.told import told
from tests.support import HALF, SMALL_TREES, STAIRS, Case, all_ways, large_trees, leaves, lots_of, plain_goes, random_tree

DOZEN = tuple(range(12))


def plain_gained(one, other):
    lots = lots_of(leaves(one))
    come = [lot for lot in lots if plain_goes(other, lot) and not plain_goes(one, lot)]
    return (len(come), len([lot for lot in lots if plain_goes(one, lot) and not plain_goes(other, lot)]))


class Gained(Case):

    def test_small_trees(self):
        by_buttons = {}
        for tree in SMALL_TREES:
            by_buttons.setdefault(tuple(sorted(leaves(tree))), []).append(tree)
        rng = random.Random(41)
        for trees in by_buttons.values():
            pairs = list(itertools.product(trees[:40], repeat=2))
            for one, other in rng.sample(pairs, min(len(pairs), 40)):
                self.assertExact(gained(one, other), plain_gained(one, other), (one, other))
                self.assertLeavesAsItIs(gained, one, other)

    def test_deeds(self):
        for tree in SMALL_TREES[::5]:
            for way, part in all_ways(tree):
                if isinstance(part, tuple):
                    for k in range(1, len(part[1]) + 1):
                        found = gained(tree, bounded(tree, way, k))
                        self.assertExact(found, plain_gained(tree, bounded(tree, way, k)))
                        # A bound raised brings nothing, one lowered takes nothing.
                        self.assertEqual(found[0 if k >= part[0] else 1], 0)
                    if way != ():
                        self.assertExact(gained(tree, dissolved(tree, way)), plain_gained(tree, dissolved(tree, way)))
            one, other = leaves(tree)[0], leaves(tree)[-1]
            found = gained(tree, exchanged(tree, one, other))
            self.assertExact(found, plain_gained(tree, exchanged(tree, one, other)))
            self.assertEqual(found[0], found[1])

    def test_alike(self):
        for tree in SMALL_TREES[::5] + [STAIRS]:
            self.assertExact([gained(tree, tree), gained(tree, told(tree)), gained(told(tree), tree)], [(0, 0)] * 3)

    def test_backwards(self):
        rng = random.Random(42)
        for _ in range(30):
            one, other = [random_tree(rng, range(6), 4) for _ in range(2)]
            self.assertExact(gained(one, other), gained(other, one)[::-1])

    def test_12_and_13_buttons(self):
        self.assertExact(gained((12, DOZEN), (1, DOZEN)), (2 ** 12 - 2, 0))
        self.assertExact(gained((6, DOZEN), (7, DOZEN)), (0, 924))
        rng = random.Random(43)
        one, other = [random_tree(rng, DOZEN, 12) for _ in range(2)]
        self.assertExact(gained(one, other), plain_gained(one, other))
        baker = tuple(range(13))
        for one, other in (((1, baker), (1, baker)), ((12, baker), (1, baker)), (HALF, HALF), (HALF, (1, HALF[1]))):
            self.assertRaisesExact(TooMany(12), gained, one, other)
        for tree in large_trees()[:10]:
            if len(leaves(tree)) > 12:
                self.assertRaisesExact(TooMany(12), gained, tree, tree)

    def test_unlike_buttons_go_first(self):
        for one, other in ((5, 6), ((1, (0, 1)), (1, (0, 2))), ((1, (0, 1)), 0), ((1, (0, 1)), (1, (0, 1, 2))), (HALF, 5),
                           ((1, tuple(range(13))), (1, DOZEN)), (HALF, (1, tuple(range(1, 25)))), (STAIRS, HALF)):
            self.assertRaisesExact(Unfit(), gained, one, other)
            self.assertRaisesExact(Unfit(), gained, other, one)
        for tree in SMALL_TREES[::20]:
            if len(leaves(tree)) > 1:
                self.assertRaisesExact(Unfit(), gained, tree, taken_out(tree, leaves(tree)[0]))

    def test_buttons(self):
        self.assertExact([gained(5, 5), gained(5, (1, (5,))), gained(0, 0), gained(1, 1)], [(0, 0)] * 4)
