"""Lots that part two trees: point B3."""

import random

from onescale.lots import goes, lot_error
from onescale.parting import parting_lot
from onescale.trips import tree_error
from tests.support import HALF, SMALL_TREES, STAIRS, WELL, Case, large_trees, leaves, lots_of, plain_goes, shuffled


class PartingLot(Case):

    def check_parts(self, one, other):
        lot = parting_lot(one, other)
        self.assertExact(lot_error(lot), None)
        self.assertFalse([button for button in lot if button not in leaves(one) + leaves(other)], (one, other))
        self.assertNotEqual(plain_goes(one, lot), plain_goes(other, lot), (one, other))

    def test_small_trees(self):
        rng = random.Random(12)
        alike = 0
        for one in SMALL_TREES:
            for other in rng.sample(SMALL_TREES, 8) + [shuffled(rng, one)]:
                buttons = set(leaves(one) + leaves(other))
                if len(buttons) > 8:
                    self.check_parts(one, other)
                elif [lot for lot in lots_of(buttons) if plain_goes(one, lot) != plain_goes(other, lot)]:
                    self.check_parts(one, other)
                else:
                    alike += 1
                    self.assertExact(parting_lot(one, other), None, (one, other))
        self.assertGreater(alike, 500)

    def test_buttons_that_equal_bools(self):
        # What is left may be the button 1 or 0, which is not True or False.
        for one in (0, 1, 2, (1, (0, 1)), (2, (0, 1)), (1, (0, 2)), (2, (1, 2)), (2, (0, 1, 2)), (2, (0, (1, (1, 2))))):
            for other in (0, 1, 2, (1, (0, 1)), (2, (0, 1)), (1, (0, 2)), (2, (1, 2)), (2, (0, 1, 2))):
                if one == other:
                    self.assertExact(parting_lot(one, other), None)
                else:
                    self.check_parts(one, other)

    def test_single_buttons(self):
        for one in (0, 1, 50, 99):
            for other in (0, 1, 50, 99):
                if one != other:
                    self.assertIn(parting_lot(one, other), ((one,), (other,)))
            self.assertExact(parting_lot(one, (1, (one,))), None)

    def test_just_one_lot(self):
        # These pairs do the same but with one lot.
        self.assertExact(parting_lot((23, tuple(range(23))), (24, tuple(range(24)))), tuple(range(23)))
        self.assertExact(parting_lot((1, tuple(range(24))), (1, tuple(range(23)))), (23,))
        self.assertExact(parting_lot((1, (0, (2, (1, 2)))), (1, (0, (3, (1, 2, 3))))), (1, 2))

    def test_large_trees(self):
        rng = random.Random(13)
        trees = large_trees()
        for one in trees:
            other = shuffled(rng, one)
            if tree_error(other) is None:
                self.assertExact(parting_lot(one, other), None)
            for other in trees:
                if other is not one:
                    self.check_parts(one, other)
        for other in ((11, HALF[1]), (13, HALF[1]), (12, HALF[1][1:]), (12, HALF[1][:-1] + (99,)),
                      (12, tuple(range(50, 74))), (6, ((6, HALF[1][:12]), (1, (12,))) + HALF[1][13:]), STAIRS, WELL):
            self.check_parts(HALF, other)
            self.check_parts(other, HALF)

    def test_innermost_bound_of_a_deep_tree(self):
        other = (2, (10, 11))
        for button in range(9, -1, -1):
            other = (1 + button % 2, (button, other))
        self.assertExact(parting_lot(STAIRS, other) in ((1, 3, 5, 7, 9, 10), (1, 3, 5, 7, 9, 11)), True)
