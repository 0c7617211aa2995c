"""Contrary trees: point B4 and what B6 says of them."""

from onescale.contraries import contrary
from onescale.lots import goes
from onescale.stuck import left
from onescale.told import is_told, told
from onescale.trips import ways
from tests.support import HALF, SMALL_TREES, Case, all_ways, large_trees, leaves, lots_of
from tests.test_stuck import deals


class Contrary(Case):

    def test_each_bound_is_turned(self):
        for tree in SMALL_TREES + large_trees():
            found = dict(all_ways(contrary(tree)))
            self.assertExact(ways(contrary(tree)), ways(tree))
            for way, part in all_ways(tree):
                if isinstance(part, int):
                    self.assertExact(found[way], part)
                else:
                    self.assertExact(found[way][0], len(part[1]) - part[0] + 1)

    def test_single_trees(self):
        for tree, wanted in ((0, 0), (99, 99), ((1, (0,)), (1, (0,))), ((2, (1, 0)), (1, (1, 0))), (HALF, (13, HALF[1])),
                             ((2, (5, (3, (3, 1, 2)), 0)), (2, (5, (1, (3, 1, 2)), 0)))):
            self.assertExact(contrary(tree), wanted)

    def test_what_holds_of_lots(self):
        for tree in SMALL_TREES:
            buttons = leaves(tree)
            for lot in lots_of(buttons):
                others = tuple(sorted(button for button in buttons if button not in lot))
                self.assertExact(goes(contrary(tree), lot), not goes(tree, others))

    def test_twice(self):
        for tree in SMALL_TREES + large_trees():
            self.assertExact(contrary(contrary(tree)), tree)

    def test_told_trees(self):
        for tree in SMALL_TREES + large_trees():
            self.assertExact(told(contrary(tree)), contrary(told(tree)))
            self.assertExact(is_told(contrary(told(tree))), True)

    def test_what_is_left(self):
        for tree in SMALL_TREES[::3]:
            for on, off in deals(leaves(tree)[:4]):
                rest = left(tree, on, off)
                self.assertExact(left(contrary(tree), off, on), not rest if isinstance(rest, bool) else contrary(rest))
