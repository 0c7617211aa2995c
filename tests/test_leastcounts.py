"""How many least lots there are, and which has which number: point C3 and what C5 says of it."""

import itertools
import math
import random

from onescale.contraries import contrary
from onescale.errors import Unfit
from onescale.leastcounts import least_at, least_count, least_number, least_sizes
from onescale.leastlots import is_least
from onescale.told import told
from tests.support import (
    ANY_VALUES, BIG, HALF, SMALL_TREES, STAIRS, WELL, Case, large_trees, leaves, lots_of, plain_least, put_to)

GATE = (2, ((2, (0, 1)), 2, 5))


def fitting(lots, must, never):
    """How many lots have all of must and none of never."""
    return len([lot for lot in lots if set(must) <= set(lot) and not set(never) & set(lot)])


def pairs_of_lots(buttons):
    """All pairs of lots of these buttons, also with a button in both."""
    return itertools.product(lots_of(buttons), repeat=2)


class Counts(Case):

    def test_small_trees(self):
        for tree in SMALL_TREES[::2]:
            least = plain_least(tree)
            for must, never in pairs_of_lots(leaves(tree)[:4]):
                self.assertExact(least_count(tree, must, never), fitting(least, must, never), (tree, must, never))

    def test_further_buttons(self):
        for tree in SMALL_TREES[::7]:
            for must, never in pairs_of_lots(leaves(tree)[:2]):
                wanted = least_count(tree, must, never)
                self.assertExact(least_count(tree, must, put_to(never, 97, 98)), wanted)
                self.assertExact(least_count(tree, put_to(must, 97), never), 0)
                self.assertExact(least_count(tree, put_to(must, 97), put_to(never, 97)), 0)

    def test_half(self):
        self.assertExact(least_count(HALF, (), ()), math.comb(24, 12))
        for many, few in ((0, 0), (1, 2), (5, 3), (11, 1), (12, 12), (12, 0), (13, 0), (0, 12), (0, 13), (3, 21)):
            must, never = tuple(range(many)), tuple(range(24 - few, 24))
            wanted = math.comb(24 - many - few, 12 - many) if many <= 12 else 0
            self.assertExact(least_count(HALF, must, never), wanted)
        self.assertExact(least_count((1, HALF[1]), (), ()), 24)
        self.assertExact(least_count((24, HALF[1]), (), ()), 1)

    def test_put_together(self):
        # Of each of six trips two of four buttons.
        tree = (3, tuple([(2, tuple(range(4 * k, 4 * k + 4))) for k in range(6)]))
        self.assertExact(least_count(tree, (), ()), 20 * 6 ** 3)
        self.assertExact(least_count(tree, (0, 4), ()), 4 * 3 * 3 * 6)
        self.assertExact(least_count(tree, (0, 1), (2, 3, 23)), 6 * 6 * 6 + 4 * 6 * 3)
        self.assertExact(least_count(tree, (0, 4, 8, 12), ()), 0)
        self.assertExact(least_sizes(tree), ((6, 20 * 6 ** 3),))

    def test_one_button_more(self):
        for tree in SMALL_TREES[::4] + large_trees():
            buttons = leaves(tree)
            for button in buttons[2:]:
                for must, never in (((), ()), ((buttons[0],), ()), ((), (buttons[1],)), ((buttons[1],), (buttons[0],))):
                    self.assertExact(least_count(tree, put_to(must, button), never)
                                     + least_count(tree, must, put_to(never, button)), least_count(tree, must, never))

    def test_alike_trees(self):
        for tree in SMALL_TREES + large_trees():
            self.assertExact(least_count(tree, (), ()), least_count(told(tree), (), ()))
            self.assertExact(least_sizes(tree), least_sizes(told(tree)))


class Sizes(Case):

    def test_small_trees(self):
        for tree in SMALL_TREES:
            least = plain_least(tree)
            sizes = sorted(set(len(lot) for lot in least))
            wanted = tuple([(size, len([lot for lot in least if len(lot) == size])) for size in sizes])
            self.assertExact(least_sizes(tree), wanted, tree)

    def test_large_trees(self):
        for tree in large_trees():
            self.assertExact(sum(number for _, number in least_sizes(tree)), least_count(tree, (), ()))
            self.assertExact(list(least_sizes(tree)), sorted(least_sizes(tree)))
        for bound in range(1, 25):
            self.assertExact(least_sizes((bound, HALF[1])), ((bound, math.comb(24, bound)),))
        self.assertExact(least_sizes(STAIRS), tuple(sorted([(k, 1) for k in range(1, 6)] + [(6, 2)])))
        self.assertExact(least_sizes(WELL), ((2, 3),))
        self.assertExact(least_sizes((1, ((12, tuple(range(12))), (1, tuple(range(12, 24)))))), ((1, 12), (12, 1)))


class Numbers(Case):

    def test_small_trees(self):
        for tree in SMALL_TREES:
            least = plain_least(tree)
            for number, lot in enumerate(least):
                self.assertExact(least_at(tree, number), lot)
                self.assertExact(least_number(tree, lot), number)
            for value in (len(least), len(least) + 1, -1, -len(least), BIG):
                self.assertRaisesExact(Unfit(), least_at, tree, value)
            for lot in lots_of(leaves(tree)):
                if lot not in least:
                    self.assertRaisesExact(Unfit(), least_number, tree, lot)
                self.assertRaisesExact(Unfit(), least_number, tree, put_to(lot, 97))

    def test_large_trees(self):
        rng = random.Random(15)
        for tree in large_trees() + [contrary(tree) for tree in large_trees()]:
            many = least_count(tree, (), ())
            numbers = sorted(set([0, many - 1, many // 2] + [rng.randrange(many) for _ in range(4)]))
            lots = [least_at(tree, number) for number in numbers]
            self.assertExact(lots, sorted(lots))
            self.assertExact([least_number(tree, lot) for lot in lots], numbers)
            self.assertFalse([lot for lot in lots if not is_least(tree, lot)])
            self.assertRaisesExact(Unfit(), least_at, tree, many)
            self.assertRaisesExact(Unfit(), least_at, tree, -1)

    def test_half(self):
        many = math.comb(24, 12)
        self.assertExact(least_at(HALF, 0), tuple(range(12)))
        self.assertExact(least_at(HALF, 1), tuple(range(11)) + (12,))
        self.assertExact(least_at(HALF, many - 1), tuple(range(12, 24)))
        self.assertExact(least_at(HALF, math.comb(23, 11)), tuple(range(1, 13)))
        self.assertExact(least_number(HALF, tuple(range(1, 13))), math.comb(23, 11))
        self.assertExact(least_number(HALF, tuple(range(12, 24))), many - 1)
        self.assertRaisesExact(Unfit(), least_at, HALF, many)
        self.assertRaisesExact(Unfit(), least_number, HALF, tuple(range(11)))
        self.assertRaisesExact(Unfit(), least_number, HALF, tuple(range(13)))

    def test_any_value(self):
        for tree in [5, 0, 1, GATE, HALF, STAIRS, WELL, (1, (0, 1)), (2, (0, 1))]:
            many = least_count(tree, (), ())
            least = plain_least(tree) if tree is not HALF else []
            for value in ANY_VALUES:
                if type(value) is int and 0 <= value < many:
                    self.assertExact(least_number(tree, least_at(tree, value)), value)
                else:
                    self.assertRaisesExact(Unfit(), least_at, tree, value)
                right = type(value) is tuple and all(type(item) is int for item in value) and value in least
                if right:
                    self.assertExact(least_at(tree, least_number(tree, value)), value)
                else:
                    self.assertRaisesExact(Unfit(), least_number, tree, value)
                self.assertLeavesAsItIs(least_at, tree, value)
                self.assertLeavesAsItIs(least_number, tree, value)

    def test_equal_values_are_told_apart(self):
        tree = (1, (0, 1))
        self.assertExact([least_at(tree, 0), least_at(tree, 1)], [(0,), (1,)])
        self.assertExact([least_number(tree, (0,)), least_number(tree, (1,))], [0, 1])
        for value in (True, False):
            self.assertRaisesExact(Unfit(), least_at, tree, value)
            self.assertRaisesExact(Unfit(), least_number, tree, (value,))
        for value in ((1, 0), (0, 0), [0], ((0,),), 0, "0"):
            self.assertRaisesExact(Unfit(), least_number, tree, value)
