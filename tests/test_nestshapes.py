"""The shapes of nests and their numbers: points I4 to I7."""

import math
import random

from onescale.errors import Unfit
from onescale.euclid import contrary_shape, shape_of
from onescale.nests import is_nest
from onescale.nestshapes import nest_at, nest_count, nest_number, nest_shapes, own_contrary
from onescale.plainrows import plain_count
from onescale.shapes import tree_count, tree_shapes
from tests.support import ANY_VALUES, BIG, Case, all_shapes, is_plain, told_trees


def dealings(shape):
    """In how many ways the buttons can be dealt out to the levels of a shape."""
    ways = math.factorial(sum(s for _, s in shape))
    for _, s in shape:
        ways //= math.factorial(s)
    return ways


def counts_from_within(last):
    """For 0 to last buttons how many shapes and how many nests there are, put together level by level outward."""
    # For a number of buttons and a kind of the outermost level: shapes, and nests of given buttons.
    rows = {}
    for n in range(2, last + 1):
        for kind, bounds in (("one-of", 1), ("some-of", n - 2), ("all-of", 1)):
            rows[n, kind] = [bounds, bounds]
    for n in range(2, last + 1):
        for s in range(1, n - 1):
            for kind, bounds in (("one-of", 1), ("some-of", s - 1), ("all-of", 1)):
                for inner in ("one-of", "some-of", "all-of"):
                    if kind != inner or kind == "some-of":
                        rows[n, kind][0] += bounds * rows[n - s, inner][0]
                        rows[n, kind][1] += bounds * math.comb(n, s) * rows[n - s, inner][1]
    found = [(0, 0), (1, 1)]
    for n in range(2, last + 1):
        found.append(tuple([sum(rows[n, kind][item] for kind in ("one-of", "some-of", "all-of")) for item in (0, 1)]))
    return found


class Counts(Case):

    def test_all_shapes(self):
        for n in range(1, 10):
            shapes = all_shapes(n)
            self.assertExact(nest_shapes(n), len(shapes))
            self.assertExact(nest_count(n), sum(dealings(shape) for shape in shapes))

    def test_all_told_trees(self):
        for n in range(1, 6):
            nests = [tree for tree in told_trees(tuple(range(n))) if is_nest(tree)]
            self.assertExact(nest_count(n), len(nests))
            self.assertExact(nest_shapes(n), len(set(shape_of(tree) for tree in nests)))

    def test_up_to_24(self):
        wanted = counts_from_within(24)
        self.assertExact([(nest_shapes(n), nest_count(n)) for n in range(1, 25)], wanted[1:])
        self.assertExact([nest_shapes(24), nest_count(24)], [16409538688, 913886742406110114849255942212])

    def test_fewer_than_trees(self):
        for n in range(1, 25):
            self.assertExact([nest_shapes(n) <= tree_shapes(n), nest_count(n) <= tree_count(n)], [True, True])
            self.assertExact([nest_shapes(n) == tree_shapes(n), nest_count(n) == tree_count(n)], [n <= 3] * 2)

    def test_plain_ones_are_among_them(self):
        for n in range(1, 10):
            self.assertExact(plain_count(n), len([shape for shape in all_shapes(n) if is_plain(shape)]))
        for n in range(1, 25):
            self.assertLessEqual(plain_count(n), nest_shapes(n))


class Numbers(Case):

    def test_all_shapes(self):
        for n in range(1, 9):
            shapes = all_shapes(n)
            self.assertExact([nest_at(n, number) for number in range(len(shapes))], shapes)
            self.assertExact([nest_number(shape) for shape in shapes], list(range(len(shapes))))

    def test_ends(self):
        for n in range(1, 25):
            last = nest_shapes(n) - 1
            self.assertExact(nest_at(n, last), ((n, n),))
            self.assertExact(nest_number(((n, n),)), last)
            self.assertExact(nest_number(nest_at(n, 0)), 0)
            for wrong in (-1, last + 1, last + 2, BIG, -BIG, True, False, None, "0", (0,), [0], {}):
                self.assertRaisesExact(Unfit(), nest_at, n, wrong)
        stairs = tuple([(1 + place % 2, 1) for place in range(22)])
        self.assertExact(nest_at(24, 0), stairs + ((1, 2),))
        self.assertExact(nest_at(23, 0), stairs[:21] + ((2, 2),))

    def test_many_buttons(self):
        rng = random.Random(5)
        for n in (10, 17, 23, 24):
            numbers = sorted(set([rng.randrange(nest_shapes(n)) for _ in range(60)]))
            shapes = [nest_at(n, number) for number in numbers]
            self.assertExact([nest_number(shape) for shape in shapes], numbers)
            self.assertExact(shapes, sorted(shapes))
            for number, shape in zip(numbers, shapes):
                self.assertExact(sum(s for _, s in shape), n)
                self.assertExact(nest_number(contrary_shape(shape)) < nest_shapes(n), True)
                if number + 1 < nest_shapes(n):
                    self.assertGreater(nest_at(n, number + 1), shape)

    def test_neighbours(self):
        # A hundred in a row, each greater than the one ahead.
        for first in (0, 10 ** 6, 10 ** 10, nest_shapes(24) - 100):
            row = [nest_at(24, number) for number in range(first, first + 100)]
            self.assertTrue(all(one < other for one, other in zip(row, row[1:])))
            self.assertExact([nest_number(shape) for shape in row], list(range(first, first + 100)))

    def test_any_value(self):
        for n in (1, 2, 3, 24):
            for value in ANY_VALUES:
                if type(value) is int and 0 <= value < nest_shapes(n):
                    self.assertExact(nest_number(nest_at(n, value)), value)
                else:
                    self.assertRaisesExact(Unfit(), nest_at, n, value)
                self.assertLeavesAsItIs(nest_at, n, value)


class OwnContrary(Case):

    def test_all_shapes(self):
        for n in range(1, 10):
            found = [shape for shape in all_shapes(n) if contrary_shape(shape) == shape]
            self.assertExact(own_contrary(n), len(found))
            for shape in found:
                k, s = shape[-1]
                self.assertExact([s % 2, k], [1, (s + 1) // 2])
                for k, s in shape[:-1]:
                    self.assertExact([s % 2, k], [0, (s + 2) // 2])

    def test_up_to_24(self):
        self.assertExact([own_contrary(n) for n in range(1, 25)],
                         [1 if n == 1 else 0 if n % 2 == 0 else 2 ** ((n - 1) // 2 - 1) for n in range(1, 25)])
