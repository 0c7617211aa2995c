"""Families of lots, and trees built back from them: points G1, G2, G4 and G6."""

import itertools
import random

from onescale.errors import NoTree
from onescale.fromlots import lots_error, tree_of
from onescale.frompapers import tree_paper_holds
from onescale.leastlots import least_lots
from onescale.lots import lot_error
from onescale.told import is_told, told
from tests.support import (
    ANY_VALUES, BIG, SMALL_SCALES, SMALL_TREES, Case, all_families, exact, plain_least, plain_scale_lots, random_tree,
    told_trees)
from tests.test_frompapers import plain_paper_holds

FIVE = ((0, 1), (0, 2), (1, 2, 3), (1, 2, 4))


def sized(many):
    """Ascending lots of two of 26 buttons, so many."""
    return tuple(itertools.islice(itertools.combinations(range(26), 2), many))


def of_12(many):
    """A family of so many lots of three or four of 12 buttons: with each four there is none of its threes."""
    fours = list(itertools.combinations(range(12), 4))
    return tuple(fours[:many])


def plain_error(value):
    """By the words of G2."""
    if not (type(value) is tuple and 1 <= len(value) <= 300):
        return "form"
    for place, item in enumerate(value):
        if lot_error(item) is not None or item == ():
            return ("lot", place)
    for place in range(1, len(value)):
        if not value[place - 1] < value[place]:
            return ("order", place)
    for place, item in enumerate(value):
        for other, around in enumerate(value):
            if place != other and set(item) <= set(around):
                return ("within", place, other)
    return "many" if len(set(button for item in value for button in item)) > 12 else None


class LotsError(Case):

    def test_families(self):
        for family in all_families(range(4)) + [FIVE]:
            self.assertExact(lots_error(family), None)
        for scale in SMALL_SCALES:
            self.assertExact(lots_error(plain_scale_lots(scale)), None)

    def test_300_and_301_lots(self):
        self.assertExact([lots_error(of_12(many)) for many in (1, 299, 300, 301, 495)], [None, None, None, "form", "form"])
        self.assertExact([lots_error(sized(many)) for many in (300, 301)], ["many", "form"])

    def test_12_and_13_buttons(self):
        for first in (0, 50, 87):
            self.assertExact(lots_error((tuple(range(first, first + 12)),)), None)
            self.assertExact(lots_error((tuple(range(first, first + 13)),)), "many")
            self.assertExact(lots_error(tuple([(button,) for button in range(first, first + 12)])), None)
            self.assertExact(lots_error(tuple([(button,) for button in range(first, first + 13)])), "many")
        self.assertExact(lots_error((tuple(range(100)),)), "many")
        self.assertExact(lots_error((tuple(range(101)),)), ("lot", 0))

    def test_wrong_lots(self):
        for wrong in ((), [0], (0, 0), (1, 0), (100,), (-1,), (True,), (False,), None, 0, "0", {0: 1}, ((0,),), (BIG,), (0, None)):
            self.assertExact(lots_error((wrong,)), ("lot", 0), wrong)
            self.assertExact(lots_error(((0, 1), wrong, (0, 1))), ("lot", 1), wrong)
            self.assertExact(lots_error(((0, 1), (0, 2), wrong)), ("lot", 2), wrong)

    def test_what_applies_first(self):
        self.assertExact(lots_error(((0, 2), (0, 1), (3, 3))), ("lot", 2))
        self.assertExact(lots_error(((0, 2), (0,), (0, 2))), ("order", 1))
        self.assertExact(lots_error(((0,), (0, 1), (0, 1))), ("order", 2))
        self.assertExact(lots_error(((0,), tuple(range(13)))), ("within", 0, 1))
        self.assertExact(lots_error(((0, 1), (0, 1, 2), (0, 2), (2,))), ("within", 0, 1))
        self.assertExact(lots_error(((0, 1, 2), (0, 2), (2,))), ("within", 1, 0))
        self.assertExact(lots_error(((0, 1), (0, 3), (1, 2), (2,), (3,))), ("within", 3, 2))
        self.assertExact(lots_error(((0, 1), (2, 3), (2, 3, 4), (2, 3, 5))), ("within", 1, 2))
        self.assertExact(lots_error([(0,), (0,)]), "form")

    def test_lots_in_disorder(self):
        rng = random.Random(1)
        pool = [lot for size in (1, 2, 3, 14) for lot in itertools.combinations(range(0, 16), size)]
        pool = rng.sample(pool, 60) + [(), (0,), (3,), (0, 3), (1, 0), [0], (True,)]
        words = []
        for _ in range(3000):
            value = [rng.choice(pool) for _ in range(rng.randint(1, 4))]
            if rng.random() < 0.8:
                value = sorted(value, key=repr) if rng.random() < 0.1 else sorted(value, key=lambda lot: tuple(lot))
            value = tuple(value)
            self.assertExact(lots_error(value), plain_error(value), value)
            words.append(str(plain_error(value))[:6])
        self.assertGreaterEqual(len(set(words)), 5)

    def test_any_value(self):
        right = 0
        for value in ANY_VALUES:
            self.assertExact(lots_error(value), plain_error(value), value)
            self.assertLeavesAsItIs(lots_error, value)
            right += lots_error(value) is None
        self.assertExact(lots_error(((5,),)), None)
        self.assertExact([lots_error(((5,), (6,))), lots_error(((5,), ()))], [None, ("lot", 1)])


class TreeOf(Case):

    def check(self, family, trees):
        """trees: of each family that has a told tree, this tree."""
        if family in trees:
            self.assertExact(tree_of(family), trees[family])
            return True
        self.check_paper(family)
        return False

    def check_paper(self, family):
        with self.assertRaises(NoTree) as caught:
            tree_of(family)
        paper = caught.exception.paper
        self.assertTrue(plain_paper_holds(family, paper), (family, paper))
        self.assertExact(tree_paper_holds(family, paper), True)
        self.assertRaisesExact(NoTree(paper), tree_of, family)

    def test_trees_lead_back(self):
        for tree in SMALL_TREES:
            self.assertExact(tree_of(tuple(plain_least(tree))), told(tree), tree)

    def test_all_families_of_four_buttons(self):
        trees = {}
        for size in range(1, 5):
            for buttons in itertools.combinations(range(4), size):
                trees.update({tuple(plain_least(tree)): tree for tree in told_trees(buttons)})
        found = [self.check(family, trees) for family in all_families(range(4))]
        self.assertExact([len(found), found.count(True)], [166, 4 + 6 * 2 + 4 * 9 + 74])

    def test_families_of_five_buttons(self):
        trees = {tuple(plain_least(tree)): tree for tree in told_trees(tuple(range(5)))}
        self.assertExact(len(trees), 885)
        for family, tree in trees.items():
            self.assertExact(tree_of(family), tree)
        found = [family for family in all_families(range(5)) if len(set(sum(family, ()))) == 5]
        self.assertExact(len([family for family in found if family in trees]), 885)
        for family in found[::5]:
            self.check(family, trees)

    def test_renamed(self):
        rng = random.Random(2)
        names = rng.sample(range(100), 4)
        for family in all_families(range(4)):
            renamed = tuple(sorted([tuple(sorted([names[button] for button in lot])) for lot in family]))
            try:
                tree = tree_of(family)
            except NoTree:
                self.check_paper(renamed)
                continue
            self.assertExact(tree_of(renamed), told(self.rename(tree, names)))

    def rename(self, tree, names):
        if isinstance(tree, int):
            return names[tree]
        return (tree[0], tuple([self.rename(part, names) for part in tree[1]]))

    def test_larger_trees(self):
        rng = random.Random(3)
        checked = 0
        for _ in range(300):
            tree = random_tree(rng, rng.sample(range(100), rng.randint(7, 12)), 12, 0.1)
            try:
                family = least_lots(tree)
            except ValueError:
                continue
            checked += 1
            self.assertExact(lots_error(family), None)
            self.assertExact(tree_of(family), told(tree), tree)
        self.assertGreater(checked, 150)

    def test_300_lots_of_12_buttons(self):
        tree = (2, ((3, tuple(range(6))), (2, tuple(range(6, 12)))))
        family = least_lots(tree)
        self.assertExact([len(family), lots_error(family)], [300, None])
        self.assertExact(tree_of(family), tree)
        self.check_paper(family[1:])
        self.check_paper(family[:150] + family[151:])
        deep = 11
        for button in range(10, -1, -1):
            deep = (1 + button % 2, (button, deep))
        self.assertExact(tree_of(least_lots(deep)), told(deep))
        self.assertExact(tree_of(tuple([(button,) for button in range(12)])), (1, tuple(range(12))))
        self.assertExact(tree_of((tuple(range(88, 100)),)), (12, tuple(range(88, 100))))

    def test_classes_of_unlike_kinds_at_once(self):
        # Of 0, 5 and one of 1 and 8 the class of 0 and 5 is all-of, as is the trip around it.
        for tree in ((3, (0, (1, (1, 8)), 5)), (1, (0, 1, (2, (2, 3)))), (4, (0, (1, (1, 8)), (2, (2, 3, 4)), 5)),
                     (1, (0, (2, (1, 8)), (2, (2, 3, 4)), 5)), (3, (0, 1, 2, (1, (3, 4))))):
            self.assertExact(is_told(tree), True)
            self.assertExact(tree_of(tuple(plain_least(tree))), tree)

    def test_families_with_one_lot_turned(self):
        rng = random.Random(4)
        stuck = 0
        for _ in range(200):
            tree = random_tree(rng, range(rng.randint(5, 8)), 12, 0)
            family = plain_least(tree)
            if len(family) < 3:
                continue
            del family[rng.randrange(len(family))]
            family = tuple(family)
            try:
                found = tree_of(family)
            except NoTree:
                stuck += 1
                self.check_paper(family)
                continue
            self.assertExact(tuple(plain_least(found)), family)
            self.assertExact(told(found), found)
        self.assertGreater(stuck, 30)

    def test_any_value_that_is_a_family(self):
        for value in ANY_VALUES:
            if lots_error(value) is None:
                self.assertExact(exact(plain_least(tree_of(value))), exact(list(value)))
