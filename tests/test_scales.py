"""Scales, their contraries, idle buttons and least lots: points F1 to F3 and F7."""

import itertools
import random

from onescale.errors import TooMany
from onescale.lots import lot_error
from onescale.scalealike import scales_alike
from onescale.scales import idle, scale_contrary, scale_error, scale_goes, scale_lots
from onescale.sums import scale_going
from tests.support import (
    ANY_VALUES, BIG, SMALL_SCALES, Case, lots_of, plain_scale_goes, plain_scale_lots, random_scale, scale_buttons)

SOME, MANY = (((0, 2), (1, 1), (5, 0)), 3), (((0, 3), (1, 2), (2, 2), (3, 1)), 5)


def ones(many, bound, first=0):
    """A scale of so many buttons of the weight 1."""
    return (tuple([(button, 1) for button in range(first, first + many)]), bound)


def plain_error(value):
    """By the words of F2."""
    def whole(item):
        return type(item) is int
    if not (type(value) is tuple and len(value) == 2 and type(value[0]) is tuple and 1 <= len(value[0]) <= 24
            and whole(value[1])):
        return "form"
    rows, bound = value
    for place, row in enumerate(rows):
        if not (type(row) is tuple and len(row) == 2 and whole(row[0]) and 0 <= row[0] <= 99
                and whole(row[1]) and 0 <= row[1] <= 99999):
            return ("row", place)
    for place, (row, ahead) in enumerate(zip(rows[1:], rows)):
        if row[0] <= ahead[0]:
            return ("order", place + 1)
    return None if bound in range(1, sum(weight for _, weight in rows) + 1) else "bound"


class ScaleError(Case):

    def test_scales(self):
        for scale in SMALL_SCALES:
            self.assertExact(scale_error(scale), None)

    def test_weights(self):
        for weight, wanted in ((0, "bound"), (1, None), (99999, None), (100000, ("row", 0)), (-1, ("row", 0)),
                               (BIG, ("row", 0)), (True, ("row", 0)), (False, ("row", 0)), (None, ("row", 0)),
                               ("1", ("row", 0)), ((1,), ("row", 0))):
            self.assertExact(scale_error((((3, weight),), 1)), wanted, weight)
            later = ("row", 1) if wanted == ("row", 0) else None
            self.assertExact(scale_error((((0, 1), (3, weight)), 1)), later, weight)

    def test_buttons(self):
        for button, wanted in ((0, None), (99, None), (100, ("row", 0)), (-1, ("row", 0)), (True, ("row", 0)),
                               (False, ("row", 0)), (BIG, ("row", 0)), (None, ("row", 0)), ("1", ("row", 0))):
            self.assertExact(scale_error((((button, 1),), 1)), wanted, button)

    def test_rows(self):
        self.assertExact([scale_error(ones(many, 1)) for many in (0, 1, 24, 25)], ["form", None, None, "form"])
        for row in ((), (0,), (0, 1, 1), [0, 1], {0: 1}, None, 0, "01", ((0, 1),)):
            self.assertExact(scale_error(((row,), 1)), ("row", 0), row)
            self.assertExact(scale_error((((0, 1), (1, 1), row), 1)), ("row", 2), row)

    def test_bounds(self):
        for rows, total in ((MANY[0], 8), (SOME[0], 3), (((0, 99999),), 99999), (((0, 0), (1, 1)), 1), (ones(24, 1)[0], 24)):
            for bound in (-1, 0, total + 1, total + 2, BIG, -BIG):
                self.assertExact(scale_error((rows, bound)), "bound")
            for bound in (1, total // 2 + 1, total):
                self.assertExact(scale_error((rows, bound)), None)
            for bound in (True, False, None, "1", (1,), [1]):
                self.assertExact(scale_error((rows, bound)), "form")
        self.assertExact([scale_error((((0, 0),), bound)) for bound in (-1, 0, 1)], ["bound"] * 3)

    def test_orders(self):
        for buttons, wanted in (((0, 1, 2), None), ((0, 0, 1), ("order", 1)), ((0, 2, 1), ("order", 2)),
                                ((2, 1, 0), ("order", 1)), ((1, 2, 2), ("order", 2)), ((0, 99, 98), ("order", 2))):
            self.assertExact(scale_error((tuple([(button, 1) for button in buttons]), 1)), wanted)

    def test_what_applies_first(self):
        # A row that is none goes ahead of an order that is wrong further ahead, this ahead of the bound.
        self.assertExact(scale_error((((1, 2), (0, 1), (2, -1)), 9)), ("row", 2))
        self.assertExact(scale_error((((1, 2), (0, 1), (2, -1)), None)), "form")
        self.assertExact(scale_error((((1, 2), (1, 1), (0, 1)), 9)), ("order", 1))
        self.assertExact(scale_error((((1, 2), (100, 1), (2, 100000)), 0)), ("row", 1))
        self.assertExact(scale_error(([(1, 2)], 1)), "form")

    def test_values_with_one_thing_turned(self):
        rng = random.Random(1)
        pool = [None, True, False, -1, 0, 1, 5, 99, 100, 99999, 100000, BIG, (), [], (0, 1), [0, 1], "1", (0,), (0, True)]
        for scale in SMALL_SCALES[::3] + [ones(24, 24), ones(12, 1)]:
            for _ in range(5):
                rows, bound = list(scale[0]), scale[1]
                place = rng.randrange(len(rows))
                for value in ((tuple(rows[:place] + [rng.choice(pool)] + rows[place + 1:]), bound),
                              (tuple(rows[:place] + [(rng.choice(pool), rows[place][1])] + rows[place + 1:]), bound),
                              (tuple(rows[:place] + [(rows[place][0], rng.choice(pool))] + rows[place + 1:]), bound),
                              (tuple(rows), rng.choice(pool)), (tuple(rows), bound, bound), (tuple(rows),),
                              (tuple(rng.sample(rows, len(rows))), bound + rng.randint(-1, 1))):
                    self.assertExact(scale_error(value), plain_error(value), value)

    def test_any_value(self):
        right = 0
        for value in ANY_VALUES:
            self.assertExact(scale_error(value), plain_error(value), value)
            self.assertLeavesAsItIs(scale_error, value)
            right += scale_error(value) is None
        self.assertGreater(right, 2)


class ScaleGoes(Case):

    def test_small_scales(self):
        for scale in SMALL_SCALES:
            for lot in lots_of(scale_buttons(scale)):
                wanted = plain_scale_goes(scale, lot)
                self.assertExact(scale_goes(scale, lot), wanted)
                # Buttons that the scale does not have make no difference.
                more = tuple(sorted(lot + (50, 77)))
                self.assertExact(scale_goes(scale, more), wanted)

    def test_great_scales(self):
        full = (tuple([(button, 99999) for button in range(24)]), 24 * 99999)
        self.assertExact([scale_goes(full, tuple(range(24))), scale_goes(full, tuple(range(23))), scale_goes(full, ())],
                         [True, False, False])
        self.assertExact([scale_goes(ones(24, 12), tuple(range(many))) for many in (11, 12, 24)], [False, True, True])
        self.assertExact([scale_goes(ones(24, 12), tuple(range(12, 24))), scale_goes(ones(24, 12), tuple(range(13, 100)))],
                         [True, False])


class ScaleContrary(Case):

    def test_small_scales(self):
        for scale in SMALL_SCALES:
            turned = scale_contrary(scale)
            self.assertExact(scale_error(turned), None)
            self.assertExact(turned[0], scale[0])
            self.assertExact(scale_contrary(turned), scale)
            for lot in lots_of(scale_buttons(scale)):
                others = tuple([button for button in scale_buttons(scale) if button not in lot])
                self.assertExact(scale_goes(turned, lot), not plain_scale_goes(scale, others))

    def test_bounds_at_both_ends(self):
        self.assertExact([scale_contrary(ones(24, bound))[1] for bound in (1, 2, 12, 24)], [24, 23, 13, 1])


class Idle(Case):

    def test_small_scales(self):
        found = 0
        for scale in SMALL_SCALES:
            lots = lots_of(scale_buttons(scale))
            wanted = tuple([button for button in scale_buttons(scale) if not [
                lot for lot in lots if button in lot and plain_scale_goes(scale, lot)
                and not plain_scale_goes(scale, tuple([other for other in lot if other != button]))]])
            found += len([button for button in wanted if dict(scale[0])[button] > 0])
            self.assertExact(idle(scale), wanted, scale)
        self.assertGreater(found, 20)

    def test_12_and_13_buttons(self):
        self.assertExact([idle(ones(12, bound)) for bound in (1, 6, 12)], [()] * 3)
        self.assertExact(idle((tuple([(button, 0) for button in range(11)] + [(50, 1)]), 1)), tuple(range(11)))
        heavy = (tuple([(button, 2) for button in range(11)] + [(11, 1)]), 12)
        self.assertExact(idle(heavy), (11,))
        for function in (idle, scale_lots):
            for many in (13, 14, 24):
                self.assertRaisesExact(TooMany(12), function, ones(many, 1))
                self.assertRaisesExact(TooMany(12), function, ones(many, 1, 70))
            self.assertRaisesExact(TooMany(12), function, (tuple([(button, 0) for button in range(12)] + [(12, 1)]), 1))


class ScaleLots(Case):

    def test_small_scales(self):
        for scale in SMALL_SCALES:
            found = scale_lots(scale)
            self.assertExact(found, plain_scale_lots(scale), scale)
            self.assertFalse([lot for lot in found if lot_error(lot) is not None])
            self.assertExact(found, tuple(sorted(set(found))))

    def test_scales_of_12_buttons(self):
        rng = random.Random(12)
        for most in (1, 3, 30, 99999):
            scale = random_scale(rng, rng.sample(range(100), 12), most)
            wanted = plain_scale_lots(scale)
            if len(wanted) > 300:
                self.assertRaisesExact(TooMany(300), scale_lots, scale)
            else:
                self.assertExact(scale_lots(scale), wanted)

    def test_300_and_301_least_lots(self):
        found = {}
        rng = random.Random(5)
        while not (300 in found and 301 in found):
            weights = sorted([rng.randint(1, 4) for _ in range(12)])
            rows = tuple(zip(range(12), weights))
            scale = (rows, rng.randint(sum(weights) // 3, sum(weights) // 2))
            number = self.least_number(scale)
            if number in (300, 301):
                found.setdefault(number, scale)
        self.assertExact(len(scale_lots(found[300])), 300)
        self.assertExact(scale_lots(found[300]), plain_scale_lots(found[300]))
        self.assertRaisesExact(TooMany(300), scale_lots, found[301])

    def least_number(self, scale):
        """How many least lots the scale has: their sums reach the bound, and do not without the lightest button."""
        rows, bound = scale
        number = 0
        # As the weights ascend the first button of a lot is its lightest one.
        for place, (_, lightest) in enumerate(rows):
            sums = {lightest: 1}
            for _, weight in rows[place + 1:]:
                longer = dict(sums)
                for total, many in sums.items():
                    longer[total + weight] = longer.get(total + weight, 0) + many
                sums = longer
            number += sum(many for total, many in sums.items() if bound <= total < bound + lightest)
        return number

    def test_too_many(self):
        self.assertRaisesExact(TooMany(300), scale_lots, ones(12, 6))
        self.assertRaisesExact(TooMany(300), scale_lots, ones(12, 4))
        self.assertExact(len(scale_lots(ones(12, 3))), 220)
        self.assertExact(len(scale_lots(ones(11, 8))), 165)
        # Ahead of the number of lots: too many buttons.
        self.assertRaisesExact(TooMany(12), scale_lots, ones(13, 6))


class WhatHolds(Case):

    def test_more_buttons_go(self):
        for scale in SMALL_SCALES[::4]:
            lots = lots_of(scale_buttons(scale))
            for lot, more in itertools.product(lots, repeat=2):
                if set(lot) <= set(more) and scale_goes(scale, lot):
                    self.assertExact(scale_goes(scale, more), True)

    def test_going_of_both(self):
        for scale in SMALL_SCALES:
            if sum(weight for _, weight in scale[0]) <= 2000:
                self.assertExact(scale_going(scale) + scale_going(scale_contrary(scale)), 2 ** len(scale[0]))

    def test_alike_by_least_lots(self):
        alike = 0
        for one, other in itertools.product(SMALL_SCALES[::11], SMALL_SCALES[::7]):
            if len(set(scale_buttons(one) + scale_buttons(other))) <= 9:
                wanted = scale_lots(one) == scale_lots(other)
                alike += wanted
                self.assertExact(scales_alike(one, other), wanted)
        self.assertGreater(alike, 100)

    def test_idle_buttons_stand_in_no_least_lot(self):
        for scale in SMALL_SCALES:
            used = set(button for lot in scale_lots(scale) for button in lot)
            self.assertExact(idle(scale), tuple([button for button in scale_buttons(scale) if button not in used]))

    def test_multiplied(self):
        for scale in SMALL_SCALES:
            for number in (1, 2, 3, 1000):
                larger = (tuple([(button, number * weight) for button, weight in scale[0]]), number * scale[1])
                if scale_error(larger) is None:
                    self.assertExact(scales_alike(scale, larger), True)
                    self.assertExact(scale_lots(larger), scale_lots(scale))
                else:
                    self.assertGreater(number * max(weight for _, weight in scale[0]), 99999)
