"""Swaps: points E1, E4 and what E7 says of them."""

import itertools

from onescale.ranks import is_chain
from onescale.swaps import swap_holds, swap_of
from onescale.told import told
from tests.support import ANY_VALUES, BIG, SMALL_TREES, Case, all_ways, going_lots, large_trees, leaves, plain_goes

APART = (1, ((2, (0, 1)), (2, (2, 3))))
TWO = (2, (0, 1, (1, (2, 3))))


def exchanged(lot, one, other):
    return tuple(sorted([button for button in lot if button != one] + [other]))


def plain_holds(tree, swap):
    """By the words of E1, for two lots that go and two buttons of the tree."""
    first, second, one, other = swap
    return (one in first and one not in second and other in second and other not in first
            and not plain_goes(tree, exchanged(first, one, other)) and not plain_goes(tree, exchanged(second, other, one)))


def is_nest(tree):
    """By the words of E1."""
    return not [way for way, part in all_ways(told(tree)) if isinstance(part, tuple)
                and len([inner for inner in part[1] if isinstance(inner, tuple)]) > 1]


class SwapOf(Case):

    def test_small_trees(self):
        found = 0
        for tree in SMALL_TREES:
            swap = swap_of(tree)
            if is_nest(tree):
                self.assertExact(swap, None)
            else:
                found += 1
                self.assertExact([type(item) for item in swap] == [tuple, tuple, int, int], True)
                self.assertIn(swap[0], going_lots(tree))
                self.assertIn(swap[1], going_lots(tree))
                self.assertTrue(plain_holds(tree, swap), (tree, swap))
                self.assertExact(swap_holds(tree, swap), True)
        self.assertGreater(found, 50)

    def test_large_trees(self):
        deep = APART
        for button in range(50, 60):
            deep = (1 + button % 2, (button, deep))
        for tree in large_trees() + [deep, (1, (deep,))]:
            self.assertExact(swap_of(tree) is None, is_nest(tree))
            if not is_nest(tree):
                self.assertExact(swap_holds(tree, swap_of(tree)), True)
                self.assertFalse([b for lot in swap_of(tree)[:2] for b in lot if b not in leaves(tree)])

    def test_all_kinds_of_forks(self):
        # One-of, some-of and all-of trips in trips of all bounds.
        kinds = [(bound, many) for many in (2, 3) for bound in range(1, many + 1)]
        for left_kind, right_kind in itertools.product(kinds, repeat=2):
            for more in (0, 1, 2):
                for bound in range(1, 3 + more):
                    parts = ((left_kind[0], tuple(range(left_kind[1]))),
                             (right_kind[0], tuple(range(10, 10 + right_kind[1])))) + tuple(range(20, 20 + more))
                    for tree in ((bound, parts), (bound, parts[::-1]), (2, (7, 8, (bound, parts)))):
                        if is_nest(tree):
                            self.assertExact(swap_of(tree), None)
                        else:
                            self.assertTrue(plain_holds(tree, swap_of(tree)), tree)
                            self.assertTrue(plain_goes(tree, swap_of(tree)[0]) and plain_goes(tree, swap_of(tree)[1]))

    def test_told_tree_decides(self):
        # As they are handed in these have two parts that are trips; their told trees have not.
        for tree in ((1, ((1, (0, 1)), (1, (2, 3)))), (2, ((2, (0, 1)), (2, (2, 3)))), (2, ((1, (0,)), (1, (1,)), 2)), 5):
            self.assertExact(swap_of(tree), None)


class SwapHolds(Case):

    def test_small_trees(self):
        for tree in [APART, TWO, 5, (1, (0, 1)), (2, ((1, (0, 1)), (1, (2, 3))))] + SMALL_TREES[100:900:40]:
            if len(leaves(tree)) > 4:
                continue
            going = going_lots(tree)
            some = False
            for first, second in itertools.product(going, repeat=2):
                for one, other in itertools.product(sorted(leaves(tree)) + [77], repeat=2):
                    swap = (first, second, one, other)
                    wanted = plain_holds(tree, swap)
                    some = some or wanted
                    self.assertExact(swap_holds(tree, swap), wanted, (tree, swap))
            self.assertExact(some, not is_nest(tree))
            self.assertExact(some, not is_chain(tree))

    def test_lots_that_are_none_of_the_tree_that_go(self):
        right = ((0, 1), (2, 3), 0, 2)
        self.assertExact(swap_holds(APART, right), True)
        for wrong in ((0,), (), (0, 2), (1, 2), (0, 1, 9), (0, 1, 99), (1, 0), (0, 0, 1), [0, 1], (0, True), (False, 1),
                      (0, 1, 100), (-1, 0, 1), None, 0, "01", {0: 1}, (0, BIG), ((0, 1),)):
            self.assertExact(swap_holds(APART, (wrong,) + right[1:]), False, wrong)
        for wrong in ((2,), (), (0, 2), (2, 3, 9), (3, 2), [2, 3], (2, 3, 100), None, 2, "23", {}, (2, BIG)):
            self.assertExact(swap_holds(APART, (right[0], wrong) + right[2:]), False, wrong)

    def test_buttons_that_are_none(self):
        right = ((0, 1), (2, 3), 0, 2)
        for wrong in (False, True, None, "0", (0,), [0], {}, 9, 2, 3, -1, BIG):
            self.assertExact(swap_holds(APART, right[:2] + (wrong, 2)), False, wrong)
        for wrong in (False, True, None, "2", (2,), [2], {}, 9, 0, 1, -1, BIG):
            self.assertExact(swap_holds(APART, right[:2] + (0, wrong)), False, wrong)
        self.assertExact([swap_holds(APART, right[:2] + pair) for pair in ((1, 2), (1, 3), (0, 3), (2, 0), (0, 1), (2, 3))],
                         [True, True, True, False, False, False])
        # True stands for 1 nowhere, nor False for 0.
        turned = ((2, 3), (0, 1), 2)
        self.assertExact([swap_holds(APART, turned + (other,)) for other in (0, 1, False, True)], [True, True, False, False])
        self.assertExact([swap_holds(APART, right[:2] + (one, 2)) for one in (0, 1, False, True)], [True, True, False, False])

    def test_other_forms(self):
        right = ((0, 1), (2, 3), 0, 2)
        for wrong in (list(right), right[:3], right + (0,), (right,), (), None, ((0, 1), (2, 3), (0, 2)), right[::-1],
                      ((2, 3), (0, 1), 0, 2)):
            self.assertExact(swap_holds(APART, wrong), False, wrong)
        self.assertExact(swap_holds(APART, ((2, 3), (0, 1), 2, 0)), True)

    def test_lots_that_are_more_than_least(self):
        # In this tree lots that go may have more buttons than they need.
        tree = (2, ((1, (0, 1)), (1, (2, 3)), (1, (4, 5))))
        for first, second in itertools.product(going_lots(tree)[::3], repeat=2):
            for one, other in itertools.product(range(6), repeat=2):
                self.assertExact(swap_holds(tree, (first, second, one, other)), plain_holds(tree, (first, second, one, other)))

    def test_any_value(self):
        for tree in (5, APART, TWO):
            for value in ANY_VALUES:
                wanted = tree == APART and value == ((0, 1), (2, 3), 0, 2) and isinstance(value, tuple)
                self.assertExact(swap_holds(tree, value), wanted, value)
                self.assertLeavesAsItIs(swap_holds, tree, value)
