"""The plain shapes in a row: points H6 and H7."""

import math
import random
from fractions import Fraction

from onescale.errors import Unfit
from onescale.euclid import contrary_shape, pair_of, plain_of, shape_weights
from onescale.plainrows import plain_at, plain_count, plain_number, with_sum
from tests.support import ANY_VALUES, BIG, Case, all_shapes, is_plain


def plain_row(n):
    """All plain shapes with n buttons, by the fractions of their pairs."""
    return sorted([shape for shape in all_shapes(n) if is_plain(shape)], key=lambda shape: Fraction(*pair_of(shape)))


class PlainRows(Case):

    def test_all_shapes(self):
        for n in range(1, 10):
            row = plain_row(n)
            self.assertExact(plain_count(n), len(row))
            self.assertExact([plain_at(n, number) for number in range(len(row))], row)
            self.assertExact([plain_number(shape) for shape in row], list(range(len(row))))

    def test_counts(self):
        self.assertExact([plain_count(n) for n in range(1, 25)], [2 ** (n - 1) for n in range(1, 25)])

    def test_ends(self):
        for n in range(1, 25):
            last = 2 ** (n - 1) - 1
            self.assertExact([plain_at(n, 0), plain_at(n, last)], [((1, n),), ((n, n),)])
            self.assertExact([plain_number(((1, n),)), plain_number(((n, n),))], [0, last])
            for wrong in (-1, last + 1, last + 2, BIG, -BIG, True, False, None, "0", (0,), [0], {}):
                self.assertRaisesExact(Unfit(), plain_at, n, wrong)

    def test_many_buttons(self):
        rng = random.Random(3)
        for n in (10, 17, 23, 24):
            numbers = sorted([rng.randrange(2 ** (n - 1)) for _ in range(60)])
            shapes = [plain_at(n, number) for number in numbers]
            self.assertExact([plain_number(shape) for shape in shapes], numbers)
            fractions = [Fraction(*pair_of(shape)) for shape in shapes]
            self.assertExact(fractions, sorted(fractions))
            for number, shape in zip(numbers, shapes):
                self.assertExact([sum(s for _, s in shape), is_plain(shape)], [n, True])
                self.assertExact(plain_of(*pair_of(shape)), shape)
                self.assertExact(number + plain_number(contrary_shape(shape)), 2 ** (n - 1) - 1)
                signs = "".join([("0" if k == 1 else "1") * s for k, s in shape])[:-1]
                self.assertExact(int(signs, 2), number)
            for one, other in zip(numbers, shapes):
                if one + 1 < 2 ** (n - 1):
                    self.assertGreater(Fraction(*pair_of(plain_at(n, one + 1))), Fraction(*pair_of(other)))

    def test_any_value(self):
        for n in (1, 2, 3, 24):
            for value in ANY_VALUES:
                if type(value) is int and 0 <= value < 2 ** (n - 1):
                    self.assertExact(plain_number(plain_at(n, value)), value)
                else:
                    self.assertRaisesExact(Unfit(), plain_at, n, value)
                self.assertLeavesAsItIs(plain_at, n, value)


class WithSum(Case):

    def test_over_all_shapes(self):
        # A shape with n buttons has weights of n or more together.
        found = {}
        for n in range(1, 10):
            for shape in plain_row(n):
                total = sum(s * weight for (_, s), weight in zip(shape, shape_weights(shape)))
                found.setdefault(total, []).append(pair_of(shape))
        for total in range(1, 10):
            self.assertExact(with_sum(total), tuple(sorted(found[total])))

    def test_all_totals(self):
        for total in range(1, 1000):
            rows = with_sum(total)
            self.assertExact(rows, tuple([(a, total + 1 - a) for a in range(1, total + 1) if math.gcd(a, total + 1) == 1]))
        self.assertExact([len(with_sum(total)) for total in (1, 2, 998, 999)], [1, 2, 648, 400])

    def test_shapes_of_the_pairs(self):
        for total in (1, 2, 30, 998, 999):
            for a, b in with_sum(total):
                shape = plain_of(a, b)
                self.assertExact(sum(s * weight for (_, s), weight in zip(shape, shape_weights(shape))), total)
