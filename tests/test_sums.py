"""How many lots have which sum: point F5."""

import math
import random

from onescale.errors import TooMany
from onescale.scales import scale_contrary
from onescale.sums import scale_going, sum_counts
from tests.support import SMALL_SCALES, Case, lots_of, plain_scale_goes, random_scale, scale_buttons


def plain_counts(scale):
    counts = {}
    weights = dict(scale[0])
    for lot in lots_of(scale_buttons(scale)):
        total = sum(weights[button] for button in lot)
        counts[total] = counts.get(total, 0) + 1
    return tuple(sorted(counts.items()))


def total_of(scale):
    return sum(weight for _, weight in scale[0])


class Sums(Case):

    def check(self, scale):
        self.assertExact(sum_counts(scale), plain_counts(scale), scale)
        going = len([lot for lot in lots_of(scale_buttons(scale)) if plain_scale_goes(scale, lot)])
        self.assertExact(scale_going(scale), going, scale)

    def test_small_scales(self):
        checked = 0
        for scale in SMALL_SCALES:
            if total_of(scale) <= 2000:
                checked += 1
                self.check(scale)
            else:
                self.assertRaisesExact(TooMany(2000), sum_counts, scale)
                self.assertRaisesExact(TooMany(2000), scale_going, scale)
        self.assertGreater(checked, 300)
        self.assertLess(checked, len(SMALL_SCALES))

    def test_larger_scales(self):
        rng = random.Random(2)
        for most in (0, 1, 5, 100, 150):
            self.check(random_scale(rng, rng.sample(range(100), 11), most))

    def test_24_buttons(self):
        for bound in (1, 12, 13, 24):
            scale = (tuple([(button, 1) for button in range(24)]), bound)
            self.assertExact(sum_counts(scale), tuple([(size, math.comb(24, size)) for size in range(25)]))
            self.assertExact(scale_going(scale), sum(math.comb(24, size) for size in range(bound, 25)))
        powers = (tuple([(button, 2 ** button if button < 10 else 0) for button in range(24)]), 1000)
        self.assertExact(sum_counts(powers), tuple([(total, 2 ** 14) for total in range(1024)]))
        self.assertExact(scale_going(powers), 24 * 2 ** 14)
        even = (tuple([(button, 83) for button in range(24)]), 83 * 12)
        self.assertExact(sum_counts(even)[12], (996, 2704156))
        self.assertExact(scale_going(even), (2 ** 24 + 2704156) // 2)

    def test_2000_and_2001(self):
        for rows in (((0, 2000),), ((0, 1), (1, 1999)), ((5, 1000), (6, 1000), (7, 0)),
                     tuple([(button, 83) for button in range(23)] + [(23, 91)])):
            self.assertExact(sum(weight for _, weight in rows), 2000)
            for bound in (1, 999, 2000):
                scale = (rows, bound)
                if len(rows) < 4:
                    self.check(scale)
                self.assertExact(scale_going(scale) + scale_going(scale_contrary(scale)), 2 ** len(rows))
            more = rows[:-1] + ((rows[-1][0], rows[-1][1] + 1),)
            for bound in (1, 2000, 2001):
                self.assertRaisesExact(TooMany(2000), sum_counts, (more, bound))
                self.assertRaisesExact(TooMany(2000), scale_going, (more, bound))
        heavy = (tuple([(button, 99999) for button in range(24)]), 1)
        self.assertRaisesExact(TooMany(2000), sum_counts, heavy)
        self.assertRaisesExact(TooMany(2000), scale_going, heavy)

    def test_counts_make_all_lots(self):
        for scale in SMALL_SCALES:
            if total_of(scale) <= 2000:
                rows = sum_counts(scale)
                self.assertExact(sum(number for _, number in rows), 2 ** len(scale[0]))
                self.assertExact([rows[0][0], rows[-1][0]], [0, total_of(scale)])
                self.assertExact(scale_going(scale), sum(number for total, number in rows if total >= scale[1]))
