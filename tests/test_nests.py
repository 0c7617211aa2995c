"""Nests and their least scales: points E1 to E3 and E7."""

import itertools
import random

from onescale.contraries import contrary
from onescale.errors import NoNest
from onescale.nests import fork, is_nest, levels, pair, scale_of
from onescale.scales import scale_error
from onescale.swaps import swap_holds, swap_of
from onescale.told import told
from onescale.weighing import greatest_failing, least_going, weights_hold
from tests.support import (
    GREATEST_PAIRS, GREATEST_SHAPES, HALF, NEST_300, NEST_301, SMALL_TREES, STAIRS, WELL, Case, all_scales, all_ways,
    large_trees, leaves, lots_of, nest_from, plain_goes, plain_scale_goes, put_to, random_tree, shuffled, some_nests)

TWO = (2, (0, 1, (1, (2, 3))))
APART = (1, ((2, (0, 1)), (2, (2, 3))))


def plain_forks(tree):
    """The ways, in the told tree, of all trips of which two parts are trips, in order."""
    return [way for way, part in all_ways(told(tree)) if isinstance(part, tuple)
            and len([inner for inner in part[1] if isinstance(inner, tuple)]) > 1]


def plain_pair_and_weights(tree):
    """By the words of E3, from the told tree: the pair, and the weight of each button."""
    tree = told(tree)
    if isinstance(tree, int):
        return (1, 1), {tree: 1}
    k, parts = tree
    buttons = [part for part in parts if isinstance(part, int)]
    if len(buttons) == len(parts):
        return (k, len(parts) - k + 1), {button: 1 for button in buttons}
    [inner] = [part for part in parts if isinstance(part, tuple)]
    (a, b), weights = plain_pair_and_weights(inner)
    s = len(buttons)
    v = max([a] * (s >= k) + [b] * (k >= 2))
    weights.update({button: v for button in buttons})
    return (a + (k - 1) * v, b + (s - k + 1) * v), weights


def going_states(tree):
    """For each lot of the tree's buttons whether it goes."""
    return [plain_goes(tree, lot) for lot in lots_of(leaves(tree))]


def has_swap(tree):
    """By the words of E1."""
    buttons = sorted(leaves(tree))
    lots = lots_of(buttons)
    goes = {lot: plain_goes(tree, lot) for lot in lots}
    for one, other in itertools.combinations(buttons, 2):
        rest = [lot for lot in lots if one not in lot and other not in lot]
        ones = [lot for lot in rest if goes[put_to(lot, one)] and not goes[put_to(lot, other)]]
        others = [lot for lot in rest if goes[put_to(lot, other)] and not goes[put_to(lot, one)]]
        if ones and others:
            return True
    return False


class Forks(Case):

    def test_small_and_large_trees(self):
        nests = 0
        for tree in SMALL_TREES + large_trees() + some_nests():
            forks = plain_forks(tree)
            nests += not forks
            self.assertExact(is_nest(tree), not forks, tree)
            self.assertExact(fork(tree), forks[0] if forks else None, tree)
        self.assertGreater(nests, 500)

    def test_first_fork_in_order(self):
        # Forks within one another, and beside one another; ways are those of the told tree, not of the tree.
        inner = (1, ((2, (4, 5)), (2, (6, 7))))
        self.assertExact(fork((2, (9, inner))), (0,))
        self.assertExact(fork((2, (0, inner))), (1,))
        self.assertExact(fork((2, (inner, (1, (0, 1))))), ())
        self.assertExact(fork((2, (8, (1, (0, (2, (3, inner))))))), (0, 1, 1))
        self.assertExact(fork((1, ((2, ((1, (inner,)), 9)),))), (0,))
        self.assertExact(fork((2, (20, (1, (inner, (2, (30, 31)))), 21))), (0,))
        self.assertExact([fork(STAIRS), fork(WELL), fork(HALF), fork(7), fork((1, (7,)))], [None] * 5)

    def test_told_tree_decides(self):
        for tree in ((1, ((1, (0, 1)), (1, (2, 3)))), (2, ((2, (0, 1)), (2, (2, 3)))), (2, ((1, (0,)), (1, (1,)), 2)),
                     (2, ((1, ((1, (4,)),)), (1, (2, 3))))):
            self.assertExact(is_nest(tree), True)
            self.assertExact(fork(tree), None)


class Levels(Case):

    def check_not_nested(self, tree):
        for function in (levels, pair, scale_of):
            with self.assertRaises(NoNest) as caught:
                function(tree)
            self.assertExact(swap_holds(tree, caught.exception.paper), True, tree)
            self.assertRaisesExact(caught.exception, function, tree)

    def test_small_and_large_trees(self):
        for tree in SMALL_TREES + large_trees() + some_nests():
            if plain_forks(tree):
                self.check_not_nested(tree)
                continue
            found = levels(tree)
            plain = told(tree)
            if isinstance(plain, int):
                self.assertExact(found, ((1, (plain,)),))
                continue
            trips = sorted([row for row in all_ways(plain) if isinstance(row[1], tuple)], key=lambda row: len(row[0]))
            wanted = [(k, tuple([part for part in parts if isinstance(part, int)])) for _, (k, parts) in trips]
            self.assertExact(found, tuple(wanted), tree)
            for _, buttons in found:
                self.assertExact(tuple(sorted(buttons)), buttons)

    def test_stairs_and_others(self):
        self.assertExact(levels(STAIRS), tuple([(1 + button % 2, (button,)) for button in range(10)] + [(1, (10, 11))]))
        self.assertExact(levels(WELL), ((2, (0, 50, 51)),))
        self.assertExact(levels(HALF), ((12, HALF[1]),))
        self.assertExact(levels((2, (9, 0, (1, (5, 7)), 3))), ((2, (0, 3, 9)), (1, (5, 7))))
        for button in (0, 1, 99):
            self.assertExact([levels(button), pair(button), scale_of(button)],
                             [((1, (button,)),), (1, 1), (((button, 1),), 1)])


class Pairs(Case):

    def test_by_the_words(self):
        for tree in [tree for tree in SMALL_TREES + large_trees() + some_nests() if not plain_forks(tree)]:
            wanted, weights = plain_pair_and_weights(tree)
            self.assertExact(pair(tree), wanted, tree)
            self.assertExact(scale_of(tree), (tuple(sorted(weights.items())), wanted[0]), tree)

    def test_great_trees(self):
        for shape, wanted in zip(GREATEST_SHAPES, GREATEST_PAIRS):
            tree = nest_from(shape, range(24))
            self.assertExact(pair(tree), wanted)
            rows, bound = scale_of(tree)
            self.assertExact(bound, wanted[0])
            self.assertExact(sum(weight for _, weight in rows), sum(wanted) - 1)
        self.assertExact(scale_of(nest_from(GREATEST_SHAPES[2], range(24)))[0][:3], ((0, 19601), (1, 8119), (2, 8119)))
        self.assertExact([scale_of(NEST_300)[0][0], pair(NEST_300)], [(0, 300), (544, 1200)])
        self.assertExact([scale_of(NEST_301)[0][0], pair(NEST_301)], [(0, 301), (1387, 301)])
        self.assertExact([pair(HALF), pair((1, HALF[1])), pair((24, HALF[1]))], [(12, 13), (1, 24), (24, 1)])

    def test_all_bounds_of_two_levels(self):
        for many in (2, 3, 4):
            for inner in range(1, many + 1):
                for own in (1, 2, 3):
                    for bound in range(1, own + 2):
                        tree = (bound, tuple(range(own)) + ((inner, tuple(range(10, 10 + many))),))
                        wanted, weights = plain_pair_and_weights(tree)
                        self.assertExact(pair(tree), wanted)
                        self.assertExact(scale_of(tree), (tuple(sorted(weights.items())), wanted[0]))
                        self.assertExact([plain_scale_goes(scale_of(tree), lot) for lot in lots_of(leaves(tree))],
                                         going_states(tree))


class WhatHolds(Case):

    def test_scale_of_does_what_the_nest_does(self):
        for tree in [tree for tree in SMALL_TREES if not plain_forks(tree)]:
            scale = scale_of(tree)
            self.assertExact(scale_error(scale), None)
            self.assertExact([plain_scale_goes(scale, lot) for lot in lots_of(leaves(tree))], going_states(tree), tree)
            self.assertExact(weights_hold(tree, scale), True)

    def test_nest_or_swap(self):
        for tree in SMALL_TREES:
            self.assertExact(is_nest(tree), not has_swap(tree), tree)
            self.assertExact(is_nest(tree), swap_of(tree) is None)

    def test_other_scales_are_no_lighter(self):
        # All scales of few buttons; for trees that are no nests none of them holds.
        held = {}
        for buttons, most in (((0,), 6), ((0, 4), 6), ((0, 4, 9), 5), ((0, 1, 2, 3), 4)):
            for scale in all_scales(buttons, most):
                states = tuple([plain_scale_goes(scale, lot) for lot in lots_of(buttons)])
                held.setdefault((buttons, states), []).append(scale)
        checked = forked = 0
        for tree in SMALL_TREES + [TWO, APART, (2, ((1, (0, 1)), (1, (2, 3)))), (2, ((2, (0, 1)), (2, (2, 3)), 4))]:
            buttons = tuple(sorted(leaves(tree)))
            scales = held.get((buttons, tuple(going_states(tree))), [])
            if plain_forks(tree):
                forked += 1
                self.assertExact(scales, [])
                continue
            if buttons not in ((0,), (0, 4), (0, 4, 9), (0, 1, 2, 3)):
                continue
            checked += 1
            least, bound = scale_of(tree)
            self.assertIn((least, bound), scales)
            for rows, other in scales:
                self.assertGreaterEqual(other, bound)
                self.assertTrue(all(weight >= low[1] for (_, weight), low in zip(rows, least)))
        self.assertGreater(checked, 200)
        self.assertGreater(forked, 50)

    def test_four_buttons(self):
        rng = random.Random(4)
        scales = list(all_scales((0, 1, 2, 3), 4))
        trees = [TWO, (1, (0, (2, (1, 2, 3)))), (1, (0, (2, (1, (1, (2, 3)))))), (3, (0, 1, (1, (2, 3)))), (2, (0, 1, 2, 3))]
        for tree in trees + [random_tree(rng, range(4), 4) for _ in range(20)]:
            if plain_forks(tree):
                continue
            least, bound = scale_of(tree)
            for scale in rng.sample(scales, 200):
                same = [plain_scale_goes(scale, lot) for lot in lots_of(range(4))] == going_states(tree)
                self.assertExact(weights_hold(tree, scale), same)
                if same:
                    self.assertTrue(scale[1] >= bound and all(low[1] <= row[1] for low, row in zip(least, scale[0])))

    def test_sums_and_contraries(self):
        for tree in [tree for tree in SMALL_TREES + large_trees() + some_nests() if not plain_forks(tree)]:
            rows, bound = scale_of(tree)
            first, second = pair(tree)
            self.assertExact(first + second, sum(weight for _, weight in rows) + 1)
            self.assertExact(pair(contrary(tree)), (second, first))
            self.assertExact(scale_of(contrary(tree)), (rows, second))
            self.assertExact([least_going(tree, rows), greatest_failing(tree, rows)], [bound, bound - 1])

    def test_orders_make_no_difference(self):
        rng = random.Random(3)
        for tree in [TWO, NEST_300, NEST_301, STAIRS] + some_nests()[:6]:
            other = shuffled(rng, tree)
            self.assertExact([levels(other), pair(other), scale_of(other)], [levels(tree), pair(tree), scale_of(tree)])
