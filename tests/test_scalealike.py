"""Scales that are alike, and lots that part scales: point F4."""

import itertools
import random

from onescale.errors import TooMany
from onescale.lots import lot_error
from onescale.scalealike import scale_parting, scales_alike
from tests.support import SMALL_SCALES, Case, lots_of, plain_scale_goes, random_scale, scale_buttons

MANY = (((0, 3), (1, 2), (2, 2), (3, 1)), 5)


def partings(one, other):
    """All lots of their buttons that go on just one of both."""
    lots = lots_of(set(scale_buttons(one) + scale_buttons(other)))
    return [lot for lot in lots if plain_scale_goes(one, lot) != plain_scale_goes(other, lot)]


class ScalesAlike(Case):

    def check(self, one, other):
        wanted = partings(one, other)
        self.assertExact(scales_alike(one, other), not wanted, (one, other))
        found = scale_parting(one, other)
        if wanted:
            self.assertExact(lot_error(found), None)
            self.assertIn(found, wanted)
        else:
            self.assertExact(found, None)
        self.assertExact(scale_parting(one, other), found)
        return not wanted

    def test_small_scales(self):
        alike = unlike = 0
        few = [scale for scale in SMALL_SCALES if len(scale[0]) < 4]
        for one, other in itertools.product(few[::6], few[::5]):
            if self.check(one, other):
                alike += 1
            else:
                unlike += 1
        self.assertGreater(alike, 50)
        self.assertGreater(unlike, 1000)

    def test_larger_scales(self):
        rng = random.Random(3)
        for one in [scale for scale in SMALL_SCALES if len(scale[0]) >= 4][::4]:
            rows, bound = one
            self.assertTrue(self.check(one, one))
            self.assertTrue(self.check(one, (rows + ((50, 0),), bound)))
            self.check(one, (rows[1:] + ((60, 1),), min(bound, 1 + sum(weight for _, weight in rows[1:]))))
            other = (rows, max(1, bound + rng.choice([-1, 1])))
            self.check(one, other)
            self.check(other, one)

    def test_one_lot_that_parts(self):
        # By the weight of one lot alone these differ: the one that goes in just one of both.
        one, other = (((0, 4), (1, 3), (2, 2), (3, 2)), 7), (((0, 4), (1, 3), (2, 2), (3, 2)), 8)
        self.assertExact(partings(one, other), [(0, 1), (1, 2, 3)])
        self.check(one, other)
        self.assertExact(scale_parting(MANY, (((0, 2), (1, 1), (2, 1), (3, 1)), 3)), (0, 3))

    def test_buttons_of_just_one(self):
        self.assertIn(scale_parting((((3, 1),), 1), (((4, 1),), 1)), ((3,), (4,)))
        self.assertExact(scale_parting((((3, 1), (4, 0)), 1), (((3, 7), (9, 0)), 7)), None)
        self.assertExact(scales_alike((((0, 1), (7, 1)), 2), (((0, 1),), 1)), False)
        self.assertExact(scale_parting((((0, 1), (7, 1)), 2), (((0, 1),), 1)), (0,))

    def test_12_and_13_buttons_together(self):
        def ones(first, many, bound=1):
            return (tuple([(button, 1) for button in range(first, first + many)]), bound)
        self.check(ones(0, 12), ones(0, 12, 2))
        self.assertExact(scales_alike(ones(0, 12, 12), ones(0, 12, 12)), True)
        self.assertExact(scale_parting(ones(0, 12, 6), ones(0, 12, 6)), None)
        self.check(ones(0, 6), ones(6, 6))
        self.check(ones(0, 7, 3), ones(5, 7, 3))
        for one, other in ((ones(0, 13), ones(0, 13)), (ones(0, 6), ones(6, 7)), (ones(0, 12), ones(12, 1)), (ones(0, 1), ones(1, 12)),
                           (ones(0, 24), ones(0, 1)), (ones(0, 7), ones(6, 7)), (ones(0, 24), ones(50, 24))):
            many = len(set(scale_buttons(one) + scale_buttons(other)))
            if many > 12:
                self.assertRaisesExact(TooMany(12), scales_alike, one, other)
                self.assertRaisesExact(TooMany(12), scale_parting, one, other)
                self.assertRaisesExact(TooMany(12), scale_parting, other, one)
            else:
                self.check(one, other)
        self.assertRaisesExact(TooMany(12), scales_alike, ones(0, 13), ones(0, 13))
        # Buttons that weigh nothing count, too.
        self.assertRaisesExact(TooMany(12), scales_alike, ones(0, 12), (((0, 1), (50, 0)), 1))

    def test_great_weights(self):
        rng = random.Random(4)
        for _ in range(10):
            one = random_scale(rng, range(8), 99999)
            other = (tuple([(button, max(0, weight - 1)) for button, weight in one[0]]), one[1])
            if other[1] <= sum(weight for _, weight in other[0]):
                self.check(one, other)
