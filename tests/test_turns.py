"""Turns and shares of buttons: points J1 to J5."""

import itertools
import math
import random
from fractions import Fraction

from onescale.contraries import contrary
from onescale.errors import NoButton
from onescale.goingcounts import going_count, going_sizes
from onescale.lots import goes
from onescale.ranks import no_worse
from onescale.told import told
from onescale.turns import order_share, shares, turn_count, turn_sizes
from tests.support import (
    ANY_VALUES, BIG, HALF, SMALL_TREES, STAIRS, WELL, Case, large_trees, leaves, lots_of, plain_goes, put_to)

TREE = (2, (0, 1, (1, (2, 3))))
DEEP = (2, ((1, (0, 1)), (2, (2, 3)), 4))


def plain_turns(tree, button):
    """All turns of a button, by the words of J1."""
    others = [other for other in leaves(tree) if other != button]
    return [lot for lot in lots_of(others) if not plain_goes(tree, lot) and plain_goes(tree, put_to(lot, button))]


def plain_share(tree, button):
    """By all orders of the buttons."""
    at_it = orders = 0
    for order in itertools.permutations(leaves(tree)):
        ahead = order[:order.index(button)]
        orders += 1
        at_it += not plain_goes(tree, ahead) and plain_goes(tree, ahead + (button,))
    return Fraction(at_it, orders)


def part_lots(thing, states=()):
    """Two lists: item i is how many lots of i of a thing's buttons go, and how many fail; buttons that have a state,
    pressed or not, are counted nowhere."""
    if isinstance(thing, int):
        if thing in states:
            return ([1, 0], [0, 0]) if states[thing] else ([0, 0], [1, 0])
        return [0, 1], [1, 0]
    many = len(leaves(thing))
    by_number = [[1] + [0] * many]
    for part in thing[1]:
        going, failing = part_lots(part, states)
        longer = [[0] * (many + 1) for _ in range(len(by_number) + 1)]
        for number, sizes in enumerate(by_number):
            for more, found in ((1, going), (0, failing)):
                for size, one in enumerate(sizes):
                    for other_size, other in enumerate(found):
                        if one and other:
                            longer[number + more][size + other_size] += one * other
        by_number = longer
    return ([sum(column) for column in zip(*by_number[thing[0]:])], [sum(column) for column in zip(*by_number[:thing[0]])])


class SmallTrees(Case):

    def test_turns(self):
        for tree in SMALL_TREES:
            n = len(leaves(tree))
            for button in leaves(tree):
                sizes = [len(lot) for lot in plain_turns(tree, button)]
                self.assertExact(turn_count(tree, button), len(sizes), (tree, button))
                self.assertExact(turn_sizes(tree, button), tuple([sizes.count(size) for size in range(n)]), (tree, button))

    def test_orders(self):
        for tree in [tree for tree in SMALL_TREES if len(leaves(tree)) <= 4] + SMALL_TREES[-60::4]:
            for button in leaves(tree):
                share = plain_share(tree, button)
                self.assertExact(order_share(tree, button), (share.numerator, share.denominator), (tree, button))

    def test_shares(self):
        for tree in SMALL_TREES:
            self.assertExact(shares(tree), tuple([(button, order_share(tree, button)) for button in sorted(leaves(tree))]))

    def test_buttons_and_trips_of_one(self):
        for button in (0, 1, 99):
            for tree in (button, (1, (button,)), (1, ((1, (button,)),))):
                self.assertExact([turn_count(tree, button), turn_sizes(tree, button), order_share(tree, button),
                                  shares(tree)], [1, (1,), (1, 1), ((button, (1, 1)),)])

    def test_all_of_and_one_of(self):
        for n in range(2, 25):
            buttons = tuple(range(n))
            self.assertExact(turn_sizes((n, buttons), 1), (0,) * (n - 1) + (1,))
            self.assertExact(turn_sizes((1, buttons), 1), (1,) + (0,) * (n - 1))
            self.assertExact([turn_count((n, buttons), 0), turn_count((1, buttons), n - 1)], [1, 1])
            for bound in (1, 2, n):
                self.assertExact(shares((bound, buttons)), tuple([(button, (1, n)) for button in buttons]))


class GreatTrees(Case):

    def test_half(self):
        for button in (0, 11, 23):
            self.assertExact(turn_count(HALF, button), math.comb(23, 11))
            self.assertExact(turn_sizes(HALF, button), (0,) * 11 + (math.comb(23, 11),) + (0,) * 12)
            self.assertExact(order_share(HALF, button), (1, 24))

    def test_counts(self):
        for tree in large_trees():
            for button in leaves(tree):
                with_it, without = going_count(tree, (button,), ()), going_count(tree, (), (button,))
                self.assertExact(turn_count(tree, button), with_it - without)

    def test_sizes(self):
        # The lots that go by one more button are those with it less those without it, size by size.
        for tree in large_trees():
            n = len(leaves(tree))
            for button in leaves(tree)[::5]:
                with_it, without = part_lots(tree, {button: True})[0], part_lots(tree, {button: False})[0]
                self.assertExact(turn_sizes(tree, button), tuple([with_it[size] - without[size] for size in range(n)]))

    def test_sums(self):
        for tree in large_trees():
            n = len(leaves(tree))
            for button, share in shares(tree):
                sizes = turn_sizes(tree, button)
                self.assertExact(len(sizes), n)
                self.assertExact(sum(sizes), turn_count(tree, button))
                self.assertExact(math.gcd(*share), 1)
            self.assertEqual(sum(Fraction(*share) for _, share in shares(tree)), 1)

    def test_nested_twelve_deep(self):
        # Along the stairs each bound of 1 wants its own button let, each bound of 2 wants it pressed.
        self.assertExact(turn_sizes(STAIRS, 11), (0,) * 5 + (1,) + (0,) * 6)
        for button in range(12):
            sizes = [len(lot) for lot in plain_turns(STAIRS, button)]
            self.assertExact(turn_sizes(STAIRS, button), tuple([sizes.count(size) for size in range(12)]))
        self.assertExact(shares(WELL), tuple([(button, (1, 3)) for button in sorted(leaves(WELL))]))


class WrongButtons(Case):

    def test_any_value(self):
        for tree in (5, 1, 0, TREE, DEEP, HALF, STAIRS, (1, (1,))):
            for value in ANY_VALUES:
                if type(value) is int and value in leaves(tree):
                    continue
                for function in (turn_count, turn_sizes, order_share):
                    self.assertRaisesExact(NoButton(value), function, tree, value)
                    self.assertLeavesAsItIs(function, tree, value)

    def test_true_is_no_button(self):
        for function in (turn_count, turn_sizes, order_share):
            self.assertRaisesExact(NoButton(True), function, TREE, True)
            self.assertRaisesExact(NoButton(False), function, TREE, False)
            self.assertRaisesExact(NoButton((0,)), function, TREE, (0,))
            self.assertRaisesExact(NoButton(BIG), function, TREE, BIG)
            self.assertRaisesExact(NoButton(-1), function, TREE, -1)


class WhatHolds(Case):

    def test_product_over_trips(self):
        # J3: over the trips of the told tree around the button.
        for tree in SMALL_TREES + large_trees():
            plain = told(tree)
            for button in leaves(tree):
                product = 1
                thing = plain
                while isinstance(thing, tuple):
                    mine = [part for part in thing[1] if button in leaves(part)][0]
                    others = [part for part in thing[1] if part != mine]
                    by_number = {0: 1}
                    for part in others:
                        going, failing = [sum(sizes) for sizes in part_lots(part)]
                        longer = {}
                        for number, ways in by_number.items():
                            longer[number + 1] = longer.get(number + 1, 0) + ways * going
                            longer[number] = longer.get(number, 0) + ways * failing
                        by_number = longer
                    product *= by_number[thing[0] - 1]
                    thing = mine
                self.assertExact(turn_count(tree, button), product)

    def test_counts_of_lots(self):
        for tree in SMALL_TREES:
            for button in leaves(tree):
                self.assertExact(turn_count(tree, button),
                                 going_count(tree, (button,), ()) - going_count(tree, (), (button,)))

    def test_share_by_sizes(self):
        for tree in SMALL_TREES + large_trees():
            n = len(leaves(tree))
            total = Fraction(0)
            for button, share in shares(tree):
                by_sizes = sum(number * math.factorial(size) * math.factorial(n - 1 - size)
                               for size, number in enumerate(turn_sizes(tree, button)))
                self.assertEqual(Fraction(*share), Fraction(by_sizes, math.factorial(n)))
                self.assertTrue(share[1] >= 1 and math.gcd(*share) == 1)
                total += Fraction(*share)
            self.assertEqual(total, 1)

    def test_contrary(self):
        for tree in SMALL_TREES + large_trees():
            other = contrary(tree)
            self.assertExact(shares(other), shares(tree))
            for button in leaves(tree):
                self.assertExact(turn_sizes(other, button), turn_sizes(tree, button)[::-1])
                self.assertExact(turn_count(other, button), turn_count(tree, button))

    def test_no_worse(self):
        for tree in SMALL_TREES + large_trees():
            numbers = {button: turn_count(tree, button) for button in leaves(tree)}
            parts = dict(shares(tree))
            for one, other in itertools.permutations(leaves(tree), 2):
                if no_worse(tree, one, other):
                    self.assertGreaterEqual(numbers[one], numbers[other])
                    self.assertGreaterEqual(Fraction(*parts[one]), Fraction(*parts[other]))

    def test_alike_trees(self):
        for tree in SMALL_TREES + large_trees():
            self.assertExact(shares(told(tree)), shares(tree))

    def test_sizes_and_going_sizes(self):
        # Each lot of i + 1 buttons that goes is a turn and one more, or goes without any one of its buttons.
        for tree in SMALL_TREES:
            n = len(leaves(tree))
            sizes = going_sizes(tree)
            for size in range(n):
                turns = sum(turn_sizes(tree, button)[size] for button in leaves(tree))
                both = sum(goes(tree, lot[:place] + lot[place + 1:]) for lot in lots_of(leaves(tree))
                           if len(lot) == size + 1 for place in range(size + 1))
                self.assertExact(turns, sizes[size + 1] * (size + 1) - both)

    def test_any_order_of_buttons(self):
        rng = random.Random(3)
        for tree in large_trees()[-4:]:
            order = rng.sample(leaves(tree), len(leaves(tree)))
            pressed = 0
            while not plain_goes(tree, order[:pressed]):
                pressed += 1
            lot = tuple(sorted(order[:pressed - 1]))
            self.assertGreater(turn_sizes(tree, order[pressed - 1])[len(lot)], 0)
