"""Runs, and how few buttons more it takes: points N1 and N2."""

import itertools
import random

from onescale.errors import NoButton
from onescale.lots import lot_error
from onescale.nests import is_nest, scale_of
from onescale.runs import changes, fewest_lets, fewest_presses, run, run_scale
from tests.support import (
    HALF, SMALL_SCALES, SMALL_TREES, STAIRS, WELL, Case, large_trees, leaves, lots_of, plain_goes, plain_scale_goes,
    scale_buttons, some_nests)

TREE = (2, (0, 1, (1, (3, 4))))


def some_events(rng, buttons, many):
    """Events of these buttons, more of them presses than lets."""
    return tuple([(rng.choice(("press", "press", "let")), rng.choice(buttons)) for _ in range(many)])


def lots_behind(events):
    """The lot that is pressed behind each event."""
    pressed, found = set(), []
    for word, button in events:
        if word == "press":
            pressed.add(button)
        else:
            pressed.discard(button)
        found.append(tuple(sorted(pressed)))
    return found


class Run(Case):

    def test_trees(self):
        rng = random.Random(61)
        for tree in SMALL_TREES[::3] + large_trees() + [STAIRS, WELL]:
            for many in (0, 1, 7, 100):
                events = some_events(rng, leaves(tree), many)
                states = tuple([plain_goes(tree, lot) for lot in lots_behind(events)])
                self.assertExact(run(tree, events), states)
                wanted = [place for place in range(many) if states[place] != (states[place - 1] if place else False)]
                self.assertExact(changes(tree, events), tuple(wanted))
                self.assertLeavesAsItIs(run, tree, events)

    def test_scales(self):
        rng = random.Random(62)
        great = [scale_of(tree) for tree in some_nests()] + [(tuple([(button, 99999) for button in range(24)]), 24 * 99999)]
        for scale in SMALL_SCALES[::3] + great:
            for many in (0, 1, 9, 100):
                events = some_events(rng, scale_buttons(scale), many)
                self.assertExact(run_scale(scale, events), tuple([plain_scale_goes(scale, lot) for lot in lots_behind(events)]))

    def test_all_presses_and_lets(self):
        for tree in large_trees():
            events = tuple([("press", button) for button in leaves(tree)] + [("let", button) for button in leaves(tree)])
            states = run(tree, events)
            self.assertExact([states[len(leaves(tree)) - 1], states[-1]], [True, False])
            self.assertExact(len(changes(tree, events)), 2)

    def test_what_was_so_already(self):
        events = (("let", 0), ("press", 0), ("press", 0), ("press", 1), ("press", 1), ("let", 1), ("let", 1))
        self.assertExact(run(TREE, events), (False, False, False, True, True, False, False))
        self.assertExact(changes(TREE, events), (3, 5))
        self.assertExact([run(5, (("press", 5),)), changes(5, (("press", 5), ("let", 5))), run(5, ()), changes(5, ())],
                         [(True,), (0, 1), (), ()])

    def test_first_wrong_button(self):
        scale = (((0, 1), (1, 1), (3, 1), (4, 1)), 2)
        for head in ((), (("press", 0),), (("let", 1), ("press", 3))):
            for word in ("press", "let"):
                for wrong, further in ((5, 6), (6, 5), (2, 2), (99, 7)):
                    events = head + ((word, wrong), ("press", 0), ("let", further))
                    for function, rule in ((run, TREE), (changes, TREE), (run_scale, scale)):
                        self.assertRaisesExact(NoButton(wrong), function, rule, events)
        everything = tuple([("press", button) for button in range(100)])
        for tree in large_trees():
            first = [button for button in range(100) if button not in leaves(tree)][0]
            self.assertRaisesExact(NoButton(first), run, tree, everything)
            self.assertRaisesExact(NoButton(first), changes, tree, everything)
        self.assertRaisesExact(NoButton(24), run_scale, scale_of(HALF), everything)

    def test_nests_and_their_scales(self):
        # N9, first sentence.
        rng = random.Random(63)
        for tree in [tree for tree in SMALL_TREES + large_trees() if is_nest(tree)] + some_nests():
            events = some_events(rng, leaves(tree), 60)
            self.assertExact(run_scale(scale_of(tree), events), run(tree, events))


class Fewest(Case):

    def plain_fewest(self, tree, lot):
        """The least numbers of buttons, by all lots of buttons that can be put to the lot, or taken out."""
        others = [button for button in leaves(tree) if button not in lot]
        presses = min(len(more) for more in lots_of(others) if plain_goes(tree, lot + more))
        inner = [button for button in leaves(tree) if button in lot]
        lets = min(len(less) for less in lots_of(inner) if not plain_goes(tree, set(lot) - set(less)))
        return presses, lets

    def check(self, tree, lot):
        presses, lets = fewest_presses(tree, lot), fewest_lets(tree, lot)
        for found in (presses, lets):
            self.assertExact(lot_error(found), None)
            self.assertFalse(set(found) - set(leaves(tree)))
        self.assertFalse(set(presses) & set(lot))
        self.assertFalse(set(lets) - set(lot))
        self.assertTrue(plain_goes(tree, lot + presses))
        self.assertFalse(plain_goes(tree, set(lot) - set(lets)))
        self.assertExact([fewest_presses(tree, lot), fewest_lets(tree, lot)], [presses, lets])
        return len(presses), len(lets)

    def test_small_trees(self):
        for tree in SMALL_TREES[::2]:
            for lot in lots_of(leaves(tree)):
                self.assertExact(self.check(tree, lot), self.plain_fewest(tree, lot), (tree, lot))

    def by_recursion(self, thing, lot, to_go):
        """By the words of N2."""
        if isinstance(thing, int):
            return int((thing in lot) != to_go)
        needed = thing[0] if to_go else len(thing[1]) - thing[0] + 1
        return sum(sorted(self.by_recursion(part, lot, to_go) for part in thing[1])[:needed])

    def test_great_trees(self):
        rng = random.Random(64)
        for tree in large_trees() + [STAIRS, WELL]:
            for chance in (0, 0.2, 0.5, 0.8, 1):
                lot = tuple(sorted(button for button in leaves(tree) if rng.random() < chance))
                wanted = (self.by_recursion(tree, lot, True), self.by_recursion(tree, lot, False))
                self.assertExact(self.check(tree, lot), wanted)

    def test_nothing_to_do(self):
        for tree in SMALL_TREES[::3] + large_trees():
            everything = tuple(sorted(leaves(tree)))
            self.assertExact([fewest_presses(tree, everything), fewest_lets(tree, ())], [(), ()])
            self.assertExact([fewest_presses(tree, tuple(range(100))), fewest_lets(tree, tuple(
                [button for button in range(100) if button not in everything]))], [(), ()])
            for lot in lots_of(leaves(tree)[:5]):
                self.assertExact(fewest_presses(tree, lot) == (), plain_goes(tree, lot))
                self.assertExact(fewest_lets(tree, lot) == (), not plain_goes(tree, lot))

    def test_further_buttons_make_no_difference(self):
        for tree in [tree for tree in SMALL_TREES if 99 not in leaves(tree)][::9]:
            for lot in lots_of(leaves(tree))[::2]:
                for function in (fewest_presses, fewest_lets):
                    self.assertExact(function(tree, lot + (99,)), function(tree, lot))

    def test_one_trip(self):
        buttons = tuple(range(24))
        for bound, many in itertools.product((1, 12, 24), (0, 11, 12, 24)):
            self.assertExact([len(fewest_presses((bound, buttons), buttons[:many])), len(fewest_lets((bound, buttons), buttons[:many]))],
                             [max(0, bound - many), max(0, many - bound + 1)])
