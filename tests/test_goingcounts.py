"""How many lots go, and which has which number: point C4 and what C5 says of it."""

import math
import random

from onescale.contraries import contrary
from onescale.errors import Unfit
from onescale.goingcounts import going_at, going_count, going_number, going_sizes
from onescale.lots import goes
from tests.support import (
    ANY_VALUES, BIG, HALF, SMALL_TREES, STAIRS, WELL, Case, going_lots, large_trees, leaves, lots_of, put_to)
from tests.test_leastcounts import GATE, fitting, pairs_of_lots


class Counts(Case):

    def test_small_trees(self):
        for tree in SMALL_TREES[::2]:
            going = going_lots(tree)
            for must, never in pairs_of_lots(leaves(tree)[:4]):
                self.assertExact(going_count(tree, must, never), fitting(going, must, never), (tree, must, never))

    def test_further_buttons(self):
        for tree in SMALL_TREES[::7]:
            for must, never in pairs_of_lots(leaves(tree)[:2]):
                wanted = going_count(tree, must, never)
                self.assertExact(going_count(tree, must, put_to(never, 97, 98)), wanted)
                self.assertExact(going_count(tree, put_to(must, 97), never), 0)
                self.assertExact(going_count(tree, put_to(must, 97), put_to(never, 97)), 0)

    def test_half(self):
        for bound in range(1, 25):
            tree = (bound, HALF[1])
            wanted = [math.comb(24, size) if size >= bound else 0 for size in range(25)]
            self.assertExact(going_sizes(tree), tuple(wanted))
            self.assertExact(going_count(tree, (), ()), sum(wanted))
        self.assertExact(going_count(HALF, (0, 1), (2,)), sum(math.comb(21, size) for size in range(10, 22)))

    def test_one_button_more(self):
        for tree in SMALL_TREES[::4] + large_trees():
            buttons = leaves(tree)
            for button in buttons[2:]:
                for must, never in (((), ()), ((buttons[0],), ()), ((), (buttons[1],)), ((buttons[1],), (buttons[0],))):
                    self.assertExact(going_count(tree, put_to(must, button), never)
                                     + going_count(tree, must, put_to(never, button)), going_count(tree, must, never))

    def test_contrary_trees(self):
        for tree in SMALL_TREES + large_trees():
            many = len(leaves(tree))
            here, there = going_sizes(tree), going_sizes(contrary(tree))
            self.assertExact([there[size] + here[many - size] for size in range(many + 1)],
                             [math.comb(many, size) for size in range(many + 1)])
            self.assertExact(going_count(tree, (), ()) + going_count(contrary(tree), (), ()), 2 ** many)


class Sizes(Case):

    def test_small_trees(self):
        for tree in SMALL_TREES:
            wanted = [0] * (len(leaves(tree)) + 1)
            for lot in going_lots(tree):
                wanted[len(lot)] += 1
            self.assertExact(going_sizes(tree), tuple(wanted))

    def test_large_trees(self):
        for tree in large_trees():
            sizes = going_sizes(tree)
            self.assertExact(len(sizes), len(leaves(tree)) + 1)
            self.assertExact(sum(sizes), going_count(tree, (), ()))
            self.assertExact([sizes[0], sizes[-1]], [0, 1])
        self.assertExact(going_sizes(WELL), (0, 0, 3, 1))


class Numbers(Case):

    def test_small_trees(self):
        for tree in SMALL_TREES:
            going = going_lots(tree)
            for number, lot in enumerate(going):
                self.assertExact(going_at(tree, number), lot)
                self.assertExact(going_number(tree, lot), number)
            for value in (len(going), len(going) + 1, -1, -len(going), BIG):
                self.assertRaisesExact(Unfit(), going_at, tree, value)
            for lot in lots_of(leaves(tree)):
                if lot not in going:
                    self.assertRaisesExact(Unfit(), going_number, tree, lot)
                self.assertRaisesExact(Unfit(), going_number, tree, put_to(lot, 97))

    def test_large_trees(self):
        rng = random.Random(16)
        for tree in large_trees() + [contrary(tree) for tree in large_trees()]:
            many = going_count(tree, (), ())
            numbers = sorted(set([0, many - 1, many // 2] + [rng.randrange(many) for _ in range(4)]))
            lots = [going_at(tree, number) for number in numbers]
            self.assertExact(lots, sorted(lots))
            self.assertExact([going_number(tree, lot) for lot in lots], numbers)
            self.assertFalse([lot for lot in lots if not goes(tree, lot)])
            self.assertRaisesExact(Unfit(), going_at, tree, many)
            self.assertRaisesExact(Unfit(), going_at, tree, -1)

    def test_half(self):
        many = going_count(HALF, (), ())
        for number in range(13):
            self.assertExact(going_at(HALF, number), tuple(range(12 + number)))
            self.assertExact(going_number(HALF, tuple(range(12 + number))), number)
        self.assertExact(going_at(HALF, 13), tuple(range(22)) + (23,))
        self.assertExact(going_at(HALF, many - 1), tuple(range(12, 24)))
        self.assertExact(going_number(HALF, tuple(range(12, 24))), many - 1)
        self.assertExact(going_number((1, HALF[1]), (23,)), 2 ** 24 - 2)
        self.assertExact(going_at((1, HALF[1]), 2 ** 24 - 2), (23,))

    def test_any_value(self):
        for tree in [5, 0, 1, GATE, HALF, STAIRS, WELL, (1, (0, 1)), (2, (0, 1))]:
            many = going_count(tree, (), ())
            going = [] if tree is HALF else going_lots(tree)
            for value in ANY_VALUES:
                if type(value) is int and 0 <= value < many:
                    self.assertExact(going_number(tree, going_at(tree, value)), value)
                else:
                    self.assertRaisesExact(Unfit(), going_at, tree, value)
                right = (type(value) is tuple and all(type(item) is int for item in value)
                         and (value in going or tree is HALF and value == HALF[1]))
                if right:
                    self.assertExact(going_at(tree, going_number(tree, value)), value)
                else:
                    self.assertRaisesExact(Unfit(), going_number, tree, value)
                self.assertLeavesAsItIs(going_at, tree, value)
                self.assertLeavesAsItIs(going_number, tree, value)

    def test_equal_values_are_told_apart(self):
        tree = (1, (0, 1))
        self.assertExact([going_at(tree, 0), going_at(tree, 1), going_at(tree, 2)], [(0,), (0, 1), (1,)])
        for value in (True, False):
            self.assertRaisesExact(Unfit(), going_at, tree, value)
            self.assertRaisesExact(Unfit(), going_number, tree, (value,))
        for value in ((1, 0), (0, 0), [0], ((0,),), 0, "0", (0, True), ()):
            self.assertRaisesExact(Unfit(), going_number, tree, value)
