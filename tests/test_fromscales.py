"""Trees built back from scales, and scales made light: points G5 and G6."""

import itertools
import random

from onescale.errors import NoTree, TooMany
from onescale.frompapers import tree_paper_holds
from onescale.fromscales import is_of_trips, lowered, nest_of
from onescale.nests import is_nest, scale_of
from onescale.scalealike import scales_alike
from onescale.scales import idle, scale_error, scale_lots
from onescale.told import is_told, told
from tests.support import (
    SMALL_SCALES, SMALL_TREES, Case, all_scales, leaves, lots_of, plain_goes, plain_scale_goes, plain_scale_lots,
    random_scale, scale_buttons, some_nests)
from tests.test_frompapers import plain_paper_holds

# Scales of all kinds: many of few buttons, so that trips lack.
SCALES = SMALL_SCALES + list(all_scales((0, 1, 2, 3), 3))[::2]

NO_TREE = (((0, 3), (1, 2), (2, 2), (3, 1)), 5)


def ones(many, bound):
    return (tuple([(button, 1) for button in range(many)]), bound)


class NestOf(Case):

    def test_small_scales(self):
        with_tree = without = 0
        for scale in SCALES:
            try:
                tree = nest_of(scale)
            except NoTree as error:
                without += 1
                self.check_paper(scale, error.paper)
                continue
            with_tree += 1
            self.assertExact([is_nest(tree), is_told(tree)], [True, True])
            self.assertExact(is_of_trips(scale), True)
            self.assertExact(tuple(sorted(leaves(tree) + list(idle(scale)))), tuple(scale_buttons(scale)))
            for lot in lots_of(scale_buttons(scale)):
                self.assertExact(plain_goes(tree, lot), plain_scale_goes(scale, lot), (scale, lot))
        self.assertGreater(with_tree, 400)
        self.assertGreater(without, 20)

    def check_paper(self, scale, paper):
        lots = plain_scale_lots(scale)
        self.assertExact(tree_paper_holds(lots, paper), True)
        self.assertTrue(plain_paper_holds(lots, paper))
        self.assertExact(is_of_trips(scale), False)
        self.assertRaisesExact(NoTree(paper), nest_of, scale)
        self.assertRaisesExact(NoTree(paper), lowered, scale)

    def test_no_tree_means_no_nest(self):
        # By all lots: where no tree is told, no nest of the buttons does what the scale does.
        known = {}
        for tree in SMALL_TREES:
            if sorted(leaves(tree)) == [0, 1, 2, 3] or len(leaves(tree)) == 4:
                states = tuple([plain_goes(tree, lot) for lot in lots_of(leaves(tree))])
                known[tuple(sorted(leaves(tree))), states] = tree
        for scale in SCALES:
            states = tuple([plain_scale_goes(scale, lot) for lot in lots_of(scale_buttons(scale))])
            tree = known.get((tuple(scale_buttons(scale)), states))
            if tree is not None:
                self.assertExact(nest_of(scale), told(tree))

    def test_nests_lead_back(self):
        checked = 0
        for tree in [tree for tree in SMALL_TREES if is_nest(tree)] + some_nests():
            scale = scale_of(tree)
            try:
                scale_lots(scale)
            except TooMany as error:
                for function in (nest_of, lowered, is_of_trips):
                    self.assertRaisesExact(TooMany(error.limit), function, scale)
                continue
            checked += 1
            self.assertExact(nest_of(scale), told(tree))
            self.assertExact(lowered(scale), scale)
        self.assertGreater(checked, 500)

    def test_too_many(self):
        for function in (nest_of, lowered, is_of_trips):
            self.assertRaisesExact(TooMany(12), function, ones(13, 6))
            self.assertRaisesExact(TooMany(12), function, ones(24, 1))
            self.assertRaisesExact(TooMany(300), function, ones(12, 6))
            # So many least lots that no tree is of them: too many goes first.
            self.assertRaisesExact(TooMany(300), function, (tuple([(button, 3 + button // 2) for button in range(12)]), 34))
        self.assertExact(nest_of(ones(12, 1)), (1, tuple(range(12))))
        self.assertExact(nest_of(ones(12, 12)), (12, tuple(range(12))))
        self.assertExact(nest_of(ones(12, 3)), (3, tuple(range(12))))
        self.assertExact(lowered((tuple([(button, 9) for button in range(12)]), 25)), ones(12, 3))

    def test_papers_of_larger_scales(self):
        rng = random.Random(6)
        stuck = 0
        for _ in range(150):
            scale = random_scale(rng, rng.sample(range(100), rng.randint(6, 9)), rng.choice([3, 9, 99999]))
            try:
                tree = nest_of(scale)
            except NoTree as error:
                stuck += 1
                self.check_paper(scale, error.paper)
            except TooMany:
                pass
            else:
                self.assertExact(scale_lots(scale_of(tree)), scale_lots(scale))
        self.assertGreater(stuck, 15)


class Lowered(Case):

    def test_small_scales(self):
        for scale in SCALES:
            if not is_of_trips(scale):
                continue
            light = lowered(scale)
            self.assertExact(scale_error(light), None)
            self.assertExact(scale_buttons(light), scale_buttons(scale))
            self.assertExact(scales_alike(scale, light), True)
            self.assertExact([weight for button, weight in light[0] if button in idle(scale)], [0] * len(idle(scale)))
            least, bound = scale_of(nest_of(scale))
            self.assertExact(tuple([row for row in light[0] if row[0] not in idle(scale)]), least)
            self.assertExact(light[1], bound)
            self.assertExact(lowered(light), light)
            self.assertTrue(all(low[1] <= row[1] for low, row in zip(light[0], scale[0])) and light[1] <= scale[1])

    def test_no_alike_scale_is_lighter(self):
        for buttons, most in (((0,), 5), ((1, 2), 5), ((0, 5, 9), 4), ((0, 1, 2, 3), 3)):
            alike = {}
            for scale in all_scales(buttons, most):
                states = tuple([plain_scale_goes(scale, lot) for lot in lots_of(buttons)])
                alike.setdefault(states, []).append(scale)
            for scales in alike.values():
                if not is_of_trips(scales[0]):
                    self.assertFalse([scale for scale in scales[:5] if is_of_trips(scale)])
                    continue
                light = lowered(scales[0])
                for scale in scales[:20]:
                    self.assertExact(lowered(scale), light)
                self.assertExact(light[1], min(bound for _, bound in scales))
                for place, (button, weight) in enumerate(light[0]):
                    self.assertExact(weight, min(rows[place][1] for rows, _ in scales))

    def test_great_weights(self):
        scale = (((0, 99999), (1, 99999), (7, 50000), (8, 50000), (9, 1)), 149999)
        self.assertExact(lowered(scale), (((0, 2), (1, 2), (7, 1), (8, 1), (9, 0)), 3))
        self.assertExact(nest_of(scale), (2, (0, 1, (1, (7, 8)))))
        self.assertExact(lowered((((3, 99999),), 1)), (((3, 1),), 1))
        self.assertExact(lowered((((0, 0), (3, 7), (99, 0)), 7)), (((0, 0), (3, 1), (99, 0)), 1))

    def test_renamed(self):
        rng = random.Random(5)
        for scale in SCALES[::5]:
            buttons = scale_buttons(scale)
            names = dict(zip(buttons, sorted(rng.sample(range(100), len(buttons)))))
            renamed = (tuple([(names[button], weight) for button, weight in scale[0]]), scale[1])
            self.assertExact(is_of_trips(renamed), is_of_trips(scale))
            if is_of_trips(scale):
                light = lowered(scale)
                self.assertExact(lowered(renamed), (tuple([(names[button], weight) for button, weight in light[0]]), light[1]))


class IsOfTrips(Case):

    def test_one_scale_of_none(self):
        self.assertExact(is_of_trips(NO_TREE), False)
        self.assertRaisesExact(NoTree(("stuck", (0, 1, 2, 3))), nest_of, NO_TREE)
        self.assertExact([is_of_trips(ones(many, bound)) for many, bound in ((1, 1), (5, 3), (12, 3), (12, 12))], [True] * 4)

    def test_both_ways(self):
        # The told tree has just the least lots of the scale; all scales of three buttons have one.
        for scale in itertools.chain(all_scales((0, 1, 2), 3), all_scales((4, 9), 4)):
            self.assertExact(is_of_trips(scale), True)
