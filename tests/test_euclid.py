"""Shapes of nests and Euclid's steps: points H1 to H5 and H7."""

import math
import random

from onescale.contraries import contrary
from onescale.errors import NoNest, Unfit
from onescale.euclid import (
    contrary_shape, greatest_needed, greatest_weight, nest_by, pair_of, plain_of, quotients, shape_of, shape_weights)
from onescale.nests import is_nest, levels, pair, scale_of
from onescale.swaps import swap_holds
from onescale.told import is_told, told
from onescale.trips import tree_error
from tests.support import (
    GREATEST_PAIRS, GREATEST_SHAPES, HALF, SMALL_TREES, STAIRS, WELL, Case, all_shapes, is_plain, large_trees, leaves,
    level_kind, nest_from, plain_pair, some_nests)

BILLION = 10 ** 9
SHAPES = [shape for n in range(1, 8) for shape in all_shapes(n)]


def buttons_in(shape):
    return sum(s for _, s in shape)


def is_shape(shape):
    """By the words of H1."""
    if shape == ((1, 1),):
        return True
    k, s = shape[-1]
    if not (s >= 2 and 1 <= k <= s and len(shape) <= 100 and all(s <= BILLION for _, s in shape)):
        return False
    if not all(s >= 1 and 1 <= k <= s + 1 for k, s in shape[:-1]):
        return False
    kinds = [level_kind(shape, place) for place in range(len(shape))]
    return not any(one == other != "some-of" for one, other in zip(kinds, kinds[1:]))


def great_shapes():
    """Shapes of up to 100 levels, and with levels of up to 10 ** 9 buttons."""
    rng = random.Random(4)
    found = [((BILLION, BILLION),), ((1, BILLION),), ((5 * 10 ** 8, BILLION),), ((BILLION + 1, BILLION), (1, BILLION))]
    found += [((2, 1),) * 99 + ((1, 2),), ((2, BILLION),) * 100, ((1, BILLION), (BILLION + 1, BILLION)) * 50]
    found[-1] = found[-1][:-1] + ((BILLION, BILLION),)
    found[4] = tuple([(1 + place % 2, 1) for place in range(99)]) + ((2, 2),)
    for many in (2, 12, 13, 40, 100):
        for most in (1, 3, BILLION):
            shape = [(rng.randint(2, s), s) for s in [rng.randint(2, max(2, most)) for _ in range(many)]]
            found.append(tuple(shape))
    return found


class ShapeOf(Case):

    def test_small_and_large_trees(self):
        for tree in SMALL_TREES + large_trees() + some_nests():
            if is_nest(tree):
                shape = shape_of(tree)
                self.assertExact(shape, tuple([(k, len(buttons)) for k, buttons in levels(tree)]))
                self.assertTrue(is_shape(shape), shape)
                self.assertExact(buttons_in(shape), len(leaves(tree)))
            else:
                with self.assertRaises(NoNest) as caught:
                    shape_of(tree)
                self.assertExact(swap_holds(tree, caught.exception.paper), True)

    def test_single_buttons(self):
        self.assertExact([shape_of(tree) for tree in (0, 99, (1, (5,)), (1, ((1, (7,)),)))], [((1, 1),)] * 4)
        self.assertExact([shape_of(STAIRS)[:3], shape_of(WELL), shape_of(HALF)],
                         [((1, 1), (2, 1), (1, 1)), ((2, 3),), ((12, 24),)])

    def test_contrary_trees(self):
        for tree in [tree for tree in SMALL_TREES + some_nests() if is_nest(tree)]:
            self.assertExact(shape_of(contrary(tree)), contrary_shape(shape_of(tree)))


class NestBy(Case):

    def test_all_shapes(self):
        rng = random.Random(1)
        for shape in SHAPES:
            buttons = tuple(sorted(rng.sample(range(100), buttons_in(shape))))
            tree = nest_by(shape, buttons)
            self.assertExact(tree, told(nest_from(shape, buttons)))
            self.assertExact([tree_error(tree), is_told(tree), is_nest(tree)], [None, True, True])
            self.assertExact(shape_of(tree), shape)
            # The outermost trip has the least buttons, and so on.
            self.assertExact(sum([own for _, own in levels(tree)], ()), buttons)

    def test_24_and_25_buttons(self):
        for shape in GREATEST_SHAPES + [((12, 24),), ((1, 22), (2, 2))]:
            self.assertExact(shape_of(nest_by(shape, tuple(range(76, 100)))), shape)
            for many in (23, 25):
                self.assertRaisesExact(Unfit(), nest_by, shape, tuple(range(many)))
        for shape in (((1, 25),), ((3, 20), (1, 5)), ((2, 1), (3, 24)), ((1, 98), (2, 2))):
            self.assertRaisesExact(Unfit(), nest_by, shape, tuple(range(buttons_in(shape))))
            self.assertRaisesExact(Unfit(), nest_by, shape, tuple(range(24)))

    def test_12_and_13_levels(self):
        for many in range(1, 15):
            outer = tuple([(1 + place % 2, 1) for place in range(many - 1)])
            shape = outer + ((2 - many % 2, 2),)
            self.assertTrue(is_shape(shape))
            if many <= 12:
                tree = nest_by(shape, tuple(range(many + 1)))
                self.assertExact([shape_of(tree), tree_error(tree)], [shape, None])
            else:
                self.assertRaisesExact(Unfit(), nest_by, shape, tuple(range(many + 1)))

    def test_other_numbers_of_buttons(self):
        for shape in SHAPES[::10]:
            for many in range(1, 12):
                if many != buttons_in(shape):
                    self.assertRaisesExact(Unfit(), nest_by, shape, tuple(range(many)))
        for shape in great_shapes():
            for many in (1, 2, 24, 100):
                if many != buttons_in(shape):
                    self.assertRaisesExact(Unfit(), nest_by, shape, tuple(range(many)))
        self.assertExact([nest_by(((1, 1),), (button,)) for button in (0, 1, 99)], [0, 1, 99])
        self.assertRaisesExact(Unfit(), nest_by, ((1, 1),), (0, 1))


class Pairs(Case):

    def test_by_the_words(self):
        for shape in SHAPES + great_shapes() + GREATEST_SHAPES:
            wanted, weights = plain_pair(shape)
            self.assertExact(pair_of(shape), wanted)
            self.assertExact(shape_weights(shape), weights)
            self.assertExact(greatest_weight(shape), max(weights))

    def test_as_of_nests(self):
        for shape in SHAPES + GREATEST_SHAPES:
            tree = nest_by(shape, tuple(range(buttons_in(shape))))
            self.assertExact(pair_of(shape), pair(tree))
            weights = dict(scale_of(tree)[0])
            self.assertExact(shape_weights(shape), tuple([weights[own[0]] for _, own in levels(tree)]))
        self.assertExact([pair_of(shape) for shape in GREATEST_SHAPES], GREATEST_PAIRS)
        self.assertExact(greatest_weight(GREATEST_SHAPES[2]), 19601)

    def test_sums(self):
        for shape in SHAPES + great_shapes():
            total = sum(s * weight for (_, s), weight in zip(shape, shape_weights(shape)))
            self.assertExact(sum(pair_of(shape)), total + 1)

    def test_100_levels(self):
        stairs = great_shapes()[4]
        self.assertExact([len(stairs), is_shape(stairs)], [100, True])
        ones = [1, 1]
        while len(ones) < 110:
            ones.append(ones[-1] + ones[-2])
        self.assertExact(sorted(pair_of(stairs)), sorted(ones[100:102]))
        self.assertExact(shape_weights(stairs)[:2], (ones[100], ones[99]))
        twos = ((2, BILLION),) * 100
        self.assertExact(pair_of(twos)[1], (BILLION - 1) * BILLION ** 99)
        self.assertExact(shape_weights(twos)[-3:], ((BILLION - 1) * BILLION, BILLION - 1, 1))
        for shape in great_shapes():
            self.assertTrue(is_shape(shape), shape)


class ContraryShape(Case):

    def test_all_shapes(self):
        for shape in SHAPES + great_shapes():
            turned = contrary_shape(shape)
            self.assertTrue(is_shape(turned), (shape, turned))
            self.assertExact(contrary_shape(turned), shape)
            self.assertExact(pair_of(turned), pair_of(shape)[::-1])
            self.assertExact(shape_weights(turned), shape_weights(shape))
            if buttons_in(shape) <= 7:
                tree = nest_by(shape, tuple(range(buttons_in(shape))))
                self.assertExact(turned, shape_of(contrary(tree)))

    def test_words(self):
        self.assertExact(contrary_shape(((1, 1),)), ((1, 1),))
        self.assertExact(contrary_shape(((1, BILLION),)), ((BILLION, BILLION),))
        self.assertExact(contrary_shape(((2, BILLION), (3, 7))), ((BILLION, BILLION), (5, 7)))


class GreatestNeeded(Case):

    def test_over_all_shapes(self):
        for n in range(1, 9):
            self.assertExact(greatest_needed(n), max(greatest_weight(shape) for shape in all_shapes(n)))

    def test_up_to_24(self):
        self.assertExact([greatest_needed(n) for n in (1, 2, 3, 24)], [1, 1, 2, 46368])
        for n in range(3, 25):
            self.assertExact(greatest_needed(n), greatest_needed(n - 1) + greatest_needed(n - 2))
            # So great it is in the stairs of n - 1 levels.
            stairs = tuple([(1 + place % 2, 1) for place in range(n - 2)]) + ((1 + n % 2, 2),)
            self.assertTrue(is_shape(stairs))
            self.assertExact([buttons_in(stairs), greatest_weight(stairs)], [n, greatest_needed(n)])


class PlainOf(Case):

    def plain_steps(self, a, b):
        """By the words of H5: the pairs of a kind and a quotient."""
        found = []
        while (a, b) != (1, 1):
            quotient = 0
            if b > a:
                while (quotient + 1) * a < b:
                    quotient += 1
                found.append(("one-of", quotient))
                b -= quotient * a
            else:
                while (quotient + 1) * b < a:
                    quotient += 1
                found.append(("all-of", quotient))
                a -= quotient * b
        return found

    def test_small_pairs(self):
        for a in range(1, 61):
            for b in range(1, 61):
                if math.gcd(a, b) > 1:
                    self.assertRaisesExact(Unfit(), plain_of, a, b)
                    self.assertRaisesExact(Unfit(), quotients, a, b)
                    continue
                shape = plain_of(a, b)
                self.assertTrue(is_shape(shape) and is_plain(shape), shape)
                self.assertExact(pair_of(shape), (a, b))
                steps = self.plain_steps(a, b)
                self.assertExact(quotients(a, b), tuple([quotient for _, quotient in steps]))
                self.assertExact(sum(quotients(a, b)) + 1, buttons_in(shape))
                if steps:
                    sizes = [quotient for _, quotient in steps]
                    sizes[-1] += 1
                    self.assertExact([s for _, s in shape], sizes)
                    self.assertExact([level_kind(shape, place) for place in range(len(shape))], [kind for kind, _ in steps])
                self.assertExact(greatest_weight(shape), min(a, b))
                self.assertExact(plain_of(b, a), contrary_shape(shape))

    def test_plain_shapes_lead_back(self):
        for n in range(1, 10):
            for shape in all_shapes(n):
                if is_plain(shape):
                    a, b = pair_of(shape)
                    self.assertExact(math.gcd(a, b), 1)
                    self.assertExact(plain_of(a, b), shape)

    def test_great_pairs(self):
        rng = random.Random(2)
        pairs = [(1, BILLION), (BILLION, 1), (BILLION - 1, BILLION), (BILLION, BILLION - 1), (2, BILLION - 1), (701408733, 433494437)]
        pairs += [(rng.randint(1, BILLION), rng.randint(1, BILLION)) for _ in range(300)]
        for a, b in pairs:
            if math.gcd(a, b) > 1:
                self.assertRaisesExact(Unfit(), plain_of, a, b)
                self.assertRaisesExact(Unfit(), quotients, a, b)
                continue
            shape = plain_of(a, b)
            self.assertTrue(is_shape(shape) and is_plain(shape))
            self.assertExact([pair_of(shape), greatest_weight(shape)], [(a, b), min(a, b)])
            self.assertExact(sum(quotients(a, b)) + 1, buttons_in(shape))
        self.assertExact([plain_of(1, BILLION), quotients(1, BILLION)], [((1, BILLION),), (BILLION - 1,)])
        self.assertExact([plain_of(BILLION, 1), quotients(BILLION, 1)], [((BILLION, BILLION),), (BILLION - 1,)])
        self.assertExact(plain_of(BILLION, BILLION - 1), ((2, 1), (1, BILLION - 1)))
        self.assertExact(quotients(701408733, 433494437), (1,) * 42)

    def test_common_divisors(self):
        for a, b in ((2, 2), (BILLION, BILLION), (BILLION, BILLION // 2), (2, BILLION), (BILLION, 5), (999999999, 3), (6, 4),
                     (600, 601 * 3), (33331 * 3, 33331 * 2)):
            self.assertRaisesExact(Unfit(), plain_of, a, b)
            self.assertRaisesExact(Unfit(), quotients, a, b)
        self.assertExact([plain_of(1, 1), quotients(1, 1)], [((1, 1),), ()])

    def test_other_shapes(self):
        # Shapes that are not plain can share a pair with a plain one, or have one with a common divisor.
        self.assertExact([pair_of(((2, 3),)), pair_of(((2, 2), (1, 2))), pair_of(((1, 1), (3, 3)))], [(2, 2), (3, 4), (3, 4)])
        self.assertExact(plain_of(3, 4), ((1, 1), (3, 3)))
