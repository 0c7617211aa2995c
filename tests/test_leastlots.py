"""Least lots: points C1, C2 and what C5 says of them."""

import random

from onescale.contraries import contrary
from onescale.errors import TooMany, Unfit
from onescale.leastlots import is_least, least_lots, thinned
from onescale.lots import goes
from onescale.told import told
from tests.support import (
    HALF, SMALL_TREES, STAIRS, WELL, Case, large_trees, leaves, lots_of, plain_goes, plain_least, put_to)


def plain_thinned(tree, lot):
    """By the words of C2."""
    kept = list(lot)
    for button in sorted(lot, reverse=True):
        kept.remove(button)
        if not plain_goes(tree, kept):
            kept.append(button)
    return tuple(sorted(kept))


def of_rows(*rows):
    """An any-of row of trips: each row a bound and how many buttons, numbered on."""
    first = 0
    parts = []
    for bound, many in rows:
        parts.append((bound, tuple(range(first, first + many))))
        first += many
    return tuple(parts)


class LeastLots(Case):

    def test_small_trees(self):
        for tree in SMALL_TREES:
            self.assertExact(least_lots(tree), tuple(plain_least(tree)), tree)

    def test_alike_trees_have_the_same(self):
        for tree in SMALL_TREES:
            self.assertExact(least_lots(told(tree)), least_lots(tree))

    def test_deep_trees(self):
        self.assertExact(least_lots(WELL), ((0, 50), (0, 51), (50, 51)))
        found = [(11,), (10,)]
        for button in range(9, -1, -1):
            found = [(button,)] + found if button % 2 == 0 else [(button,) + lot for lot in found]
        self.assertExact(least_lots(STAIRS), tuple(sorted(found)))

    def test_up_to_the_bound(self):
        # 10 choose 5 is 252; with it all-of two one-ofs, of 6 and 8 buttons, or of 7 and 7.
        parts = of_rows((5, 10), (1, 6), (1, 8))
        just = (1, (parts[0], (2, parts[1:])))
        self.assertExact(len(leaves(just)), 24)
        found = least_lots(just)
        self.assertExact(len(found), 300)
        self.assertExact(len(set(found)), 300)
        self.assertExact(list(found), sorted(found))
        self.assertFalse([lot for lot in found if not is_least(just, lot)])
        parts = of_rows((5, 10), (1, 7), (1, 7))
        more = (1, (parts[0], (2, parts[1:])))
        self.assertRaisesExact(TooMany(300), least_lots, more)
        self.assertExact(len(least_lots((2, of_rows((1, 12), (1, 12))))), 144)
        self.assertExact(len(least_lots((2, of_rows((2, 6), (3, 6))))), 300)
        self.assertRaisesExact(TooMany(300), least_lots, (2, of_rows((3, 7), (1, 9))))

    def test_bound_with_parts_of_many(self):
        # 300 once more, where many parts are chosen and few are not; and a part of many in the last place.
        tree = (3, of_rows((1, 10), (1, 6), (1, 5)))
        self.assertExact(len(least_lots(tree)), 300)
        tree = (4, (20, 21) + of_rows((1, 4), (2, 4), (1, 2)))
        self.assertExact(least_lots(tree), tuple(sorted(plain_least(tree))))

    def test_too_many(self):
        for tree in (HALF, (1, (HALF,)), (2, (HALF[1][0], (11, HALF[1][1:])))):
            self.assertRaisesExact(TooMany(300), least_lots, tree)
        self.assertExact(least_lots((1, HALF[1])), tuple([(button,) for button in range(24)]))
        self.assertExact(least_lots((24, HALF[1])), (HALF[1],))
        self.assertExact(len(least_lots((23, HALF[1]))), 24)
        self.assertExact(len(least_lots((2, HALF[1]))), 276)

    def test_large_trees(self):
        for tree in large_trees():
            try:
                found = least_lots(tree)
            except TooMany as error:
                self.assertExact(error.limit, 300)
                continue
            self.assertExact(list(found), sorted(set(found)))
            self.assertFalse([lot for lot in found if not is_least(tree, lot)])

    def test_what_holds(self):
        for tree in SMALL_TREES:
            least = [set(lot) for lot in least_lots(tree)]
            stop = [set(lot) for lot in least_lots(contrary(tree))]
            for lot in lots_of(leaves(tree)):
                self.assertExact(any(inner <= set(lot) for inner in least), goes(tree, lot))
                self.assertExact(all(inner & set(lot) for inner in stop), goes(tree, lot))


class IsLeast(Case):

    def test_small_trees(self):
        for tree in SMALL_TREES:
            least = plain_least(tree)
            for lot in lots_of(leaves(tree)):
                self.assertExact(is_least(tree, lot), lot in least)

    def test_further_buttons(self):
        for tree in SMALL_TREES[::5]:
            for lot in lots_of(leaves(tree)):
                further = [button for button in (0, 1, 50, 99) if button not in leaves(tree)]
                self.assertExact(is_least(tree, put_to(lot, further[0])), False)

    def test_however_many_there_are(self):
        rng = random.Random(14)
        for size in (11, 12, 13):
            for _ in range(5):
                self.assertExact(is_least(HALF, tuple(sorted(rng.sample(range(24), size)))), size == 12)
        self.assertExact([is_least(HALF, ()), is_least(HALF, HALF[1]), is_least(5, (5,)), is_least(5, ())],
                         [False, False, True, False])
        self.assertExact(is_least(STAIRS, (1, 3, 5, 7, 9, 10, 11)), False)
        self.assertExact(is_least(STAIRS, (0,)), True)
        self.assertExact(is_least(STAIRS, (1, 3, 5, 7, 9, 11)), True)


class Thinned(Case):

    def test_small_trees(self):
        for tree in SMALL_TREES:
            for lot in lots_of(leaves(tree)):
                if plain_goes(tree, lot):
                    self.assertExact(thinned(tree, lot), plain_thinned(tree, lot), (tree, lot))
                    self.assertTrue(is_least(tree, thinned(tree, lot)))
                else:
                    self.assertRaisesExact(Unfit(), thinned, tree, lot)

    def test_further_buttons_are_taken_out(self):
        for tree in SMALL_TREES[::5]:
            further = [button for button in (0, 1, 50, 99) if button not in leaves(tree)]
            for lot in lots_of(leaves(tree)):
                longer = put_to(lot, *further)
                if plain_goes(tree, lot):
                    self.assertExact(thinned(tree, longer), thinned(tree, lot))
                else:
                    self.assertRaisesExact(Unfit(), thinned, tree, longer)

    def test_least_lots_stay(self):
        for tree in SMALL_TREES:
            for lot in least_lots(tree):
                self.assertExact(thinned(tree, lot), lot)

    def test_large_trees(self):
        for tree in large_trees():
            self.assertExact(thinned(tree, tuple(range(100))), plain_thinned(tree, tuple(range(100))))
            self.assertRaisesExact(Unfit(), thinned, tree, ())
        self.assertExact(thinned(HALF, HALF[1]), tuple(range(12)))
        self.assertExact(thinned(HALF, tuple(range(5, 24))), tuple(range(5, 17)))
        self.assertRaisesExact(Unfit(), thinned, HALF, tuple(range(11)))
