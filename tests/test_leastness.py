"""Weight papers: point E6 and what E7 says of them."""

import random
from unittest import mock

from onescale.errors import NoButton, NoNest, TooMany
from onescale.leastness import weight_paper, weight_paper_holds
from onescale.lots import lot_error
from onescale.nests import is_nest, scale_of
from onescale.swaps import swap_holds
from onescale.weighing import weights_hold
from tests.support import (
    ANY_VALUES, BIG, GREATEST_SHAPES, HALF, NEST_300, NEST_301, SMALL_TREES, STAIRS, Case, all_scales, exact, large_trees,
    leaves, lots_of, nest_from, plain_goes, shuffled, some_nests)

TWO = (2, (0, 1, (1, (2, 3))))
APART = (1, ((2, (0, 1)), (2, (2, 3))))
PAPER = (((0, 2), (2, 3)), ((1, 3), (1,)))


def plain_holds(tree, button, paper):
    """By the words of E6, for pairs of lots."""
    if not 1 <= len(paper) <= 300:
        return False
    for lot in [lot for row in paper for lot in row]:
        if lot_error(lot) is not None or set(lot) - set(leaves(tree)):
            return False
    if not all(plain_goes(tree, going) and not plain_goes(tree, failing) for going, failing in paper):
        return False
    more = {other: sum((other in going) - (other in failing) for going, failing in paper) for other in leaves(tree)}
    return more[button] == 1 and all(more[other] <= 0 for other in more if other != button)


class WeightPaper(Case):

    def check(self, tree):
        for button, weight in scale_of(tree)[0]:
            if weight > 300:
                self.assertRaisesExact(TooMany(300), weight_paper, tree, button)
                continue
            paper = weight_paper(tree, button)
            self.assertExact(len(paper), weight)
            self.assertTrue(plain_holds(tree, button, paper), (tree, button, paper))
            self.assertExact(weight_paper_holds(tree, button, paper), True)
            self.assertExact(weight_paper(tree, button), paper)

    def test_small_nests(self):
        for tree in SMALL_TREES:
            if is_nest(tree):
                self.check(tree)

    def test_all_bounds_of_three_levels(self):
        for inner in ((1, 2), (2, 2), (2, 3), (3, 3)):
            for middle in [(bound, own) for own in (1, 2) for bound in range(1, own + 2)]:
                for outer in [(bound, own) for own in (1, 2, 3) for bound in range(1, own + 2)]:
                    self.check(nest_from((outer, middle, inner), range(10)))

    def test_great_nests(self):
        for tree in some_nests() + [tree for tree in large_trees() if is_nest(tree)]:
            self.check(tree)

    def test_300_and_301(self):
        self.assertExact(len(weight_paper(NEST_300, 0)), 300)
        self.assertExact(len(weight_paper(NEST_300, 3)), 300)
        self.assertRaisesExact(TooMany(300), weight_paper, NEST_301, 0)
        self.assertRaisesExact(TooMany(300), weight_paper, NEST_301, 3)
        self.assertExact(len(weight_paper(NEST_301, 4)), 183)
        great = nest_from(GREATEST_SHAPES[0], range(24))
        self.assertRaisesExact(TooMany(300), weight_paper, great, 0)

    def test_a_paper_of_301_pairs_is_none(self):
        with mock.patch("onescale.leastness.MAX_LOTS", 301):
            paper = weight_paper(NEST_301, 0)
            self.assertExact(len(paper), 301)
            self.assertExact(weight_paper_holds(NEST_301, 0, paper), True)
        self.assertExact(weight_paper_holds(NEST_301, 0, paper), False)
        self.assertExact(weight_paper_holds(NEST_300, 0, weight_paper(NEST_300, 0)), True)

    def test_what_a_paper_shows(self):
        # In no scale that holds the button weighs less than the paper has pairs.
        for tree in (TWO, (1, (0, (2, (1, 2, 3)))), (2, (3, (1, (0, (2, (1, 2))))))):
            papers = {button: len(weight_paper(tree, button)) for button in leaves(tree)}
            held = [dict(rows) for rows, bound in all_scales((0, 1, 2, 3), 4) if weights_hold(tree, (rows, bound))]
            self.assertTrue(held)
            for button in papers:
                self.assertExact(min(weights[button] for weights in held), papers[button])

    def test_wrong_buttons_go_first(self):
        for tree in (5, 1, TWO, APART, NEST_301, HALF, STAIRS):
            for value in ANY_VALUES:
                if type(value) is int and value in leaves(tree):
                    continue
                self.assertRaisesExact(NoButton(value), weight_paper, tree, value)
                self.assertLeavesAsItIs(weight_paper, tree, value)
        self.assertRaisesExact(NoButton(True), weight_paper, 1, True)
        self.assertRaisesExact(NoButton(False), weight_paper, 0, False)

    def test_no_nests(self):
        for tree in [tree for tree in SMALL_TREES + large_trees() if not is_nest(tree)]:
            for button in leaves(tree):
                with self.assertRaises(NoNest) as caught:
                    weight_paper(tree, button)
                self.assertExact(swap_holds(tree, caught.exception.paper), True)
            self.assertRaisesExact(NoButton(77), weight_paper, tree, 77) if 77 not in leaves(tree) else None
        # Ahead of TooMany: no nest, though parts of it are heavy.
        heavy = (1, (NEST_301, (2, (90, 91))))
        with self.assertRaises(NoNest) as caught:
            weight_paper(heavy, 0)
        self.assertExact(swap_holds(heavy, caught.exception.paper), True)

    def test_single_buttons(self):
        for button in (0, 1, 99):
            self.assertExact(weight_paper(button, button), (((button,), ()),))
            self.assertExact(weight_paper((1, (button,)), button), (((button,), ()),))


class WeightPaperHolds(Case):

    def test_papers_of_one_and_two_pairs(self):
        for tree in (TWO, APART, (1, (0, 1)), (2, (0, (1, (1, 2)))), (2, ((1, (0, 1)), (1, (2, 3))))):
            lots = lots_of(leaves(tree))
            pairs = [(going, failing) for going in lots for failing in lots]
            rng = random.Random(2)
            papers = [(row,) for row in pairs] + [(rng.choice(pairs), rng.choice(pairs)) for _ in range(300)]
            right = [row for row in pairs if plain_goes(tree, row[0]) and not plain_goes(tree, row[1])]
            papers += [(rng.choice(right), rng.choice(right)) for _ in range(2000)]
            held = 0
            for paper in papers:
                for button in leaves(tree):
                    wanted = plain_holds(tree, button, paper)
                    held += wanted
                    self.assertExact(weight_paper_holds(tree, button, paper), wanted, (tree, button, paper))
            self.assertGreater(held, 1)

    def test_papers_with_one_thing_turned(self):
        rng = random.Random(11)
        for tree in [TWO, NEST_300] + [tree for tree in SMALL_TREES[300:900:15] if is_nest(tree)]:
            for button in leaves(tree)[:3]:
                paper = weight_paper(tree, button)
                turned = [paper[1:], paper[:-1], paper + paper[:1], paper[::-1]]
                for _ in range(20):
                    place, side = rng.randrange(len(paper)), rng.randrange(2)
                    row = list(paper[place])
                    other = rng.choice(leaves(tree) + [77])
                    row[side] = tuple(sorted(set(row[side]) ^ {other}))
                    turned.append(paper[:place] + (tuple(row),) + paper[place + 1:])
                for value in turned:
                    self.assertExact(weight_paper_holds(tree, button, value), plain_holds(tree, button, value))

    def test_other_buttons_of_the_tree(self):
        for tree in (TWO, NEST_300, STAIRS, shuffled(random.Random(1), NEST_300)):
            buttons = leaves(tree)
            for button in buttons:
                paper = weight_paper(tree, button)
                self.assertExact([weight_paper_holds(tree, other, paper) for other in buttons],
                                 [other == button for other in buttons])

    def test_trees_that_are_no_nests(self):
        self.assertExact(weight_paper_holds(APART, 0, (((0, 1), (1,)),)), True)
        self.assertExact(weight_paper_holds(APART, 0, (((0, 1), (1, 2)),)), True)
        self.assertExact(weight_paper_holds(APART, 0, (((0, 1), ()),)), False)
        # This shows that no scale holds: 1 more for 0, and 1 less for 1, over pairs that balance else.
        swapped = (((0, 1), (0, 2)), ((2, 3), (1, 3)))
        self.assertExact([weight_paper_holds(APART, button, swapped) for button in range(4)], [False] * 4)
        self.assertExact([weight_paper_holds(APART, button, swapped + (((0, 1), (1,)),)) for button in range(4)],
                         [True, False, False, False])

    def test_wrong_forms(self):
        self.assertExact(weight_paper_holds(TWO, 0, PAPER), True)
        first = PAPER[0]
        for wrong in (list(PAPER), (), [], None, PAPER[:1] * 2, (list(first), PAPER[1]), (first + ((),), PAPER[1]), (first[:1],),
                      (([0, 2], (2, 3)), PAPER[1]), (((0, 2), [2, 3]), PAPER[1]), (((2, 0), (2, 3)), PAPER[1]),
                      (((0, 2), (3, 2)), PAPER[1]), (((0, 2), (2, 2, 3)), PAPER[1]), (((0, 2, 9), (2, 3)), PAPER[1]),
                      (((0, 2), (2, 3, 9)), PAPER[1]), (((0, 2), (2, 3, 100)), PAPER[1]), (((False, 2), (2, 3)), PAPER[1]),
                      (((0, 2), (2, 3)), ((True, 3), (1,))), (((0, 2), (2, 3)), ((1, 3), (True,))), ((), PAPER[0]), PAPER[0],
                      (((2, 3), (0, 2)), PAPER[1]), (((0, 2), (0, 2)), PAPER[1]), (((0, 2), (2, 3)), ((1, 3), (BIG,))),
                      (((0, 2), (2, 3)), ((1, 3), "1")), (((0, 2), (2, 3)), ((1, 3), {1: 1})), (PAPER,)):
            for button in range(4):
                self.assertExact(weight_paper_holds(TWO, button, wrong),
                                 button == 0 and wrong == (((0, 1), (1,)),), wrong)

    def test_any_value(self):
        for tree in (0, 5, TWO, HALF):
            for value in ANY_VALUES:
                wanted = tree == 5 and exact(value) == exact((((5,), ()),))
                self.assertExact(weight_paper_holds(tree, leaves(tree)[0], value), wanted, value)
                self.assertLeavesAsItIs(weight_paper_holds, tree, leaves(tree)[0], value)
