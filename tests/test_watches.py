"""Watches: point N3 and what N9 says of them."""

import random

from onescale.errors import NoButton
from onescale.lots import counts
from onescale.runs import run
from onescale.watches import Watch
from tests.support import ANY_VALUES, BIG, HALF, SMALL_TREES, STAIRS, WELL, Case, large_trees, leaves, plain_goes
from tests.test_runs import TREE, lots_behind, some_events


def tell(watch, event):
    word, button = event
    return watch.press(button) if word == "press" else watch.let(button)


def state(watch):
    return [watch.goes, watch.pressed, watch.touched, len(watch), list(watch)]


class OfTrees(Case):

    def check(self, tree, events):
        watch = Watch(tree)
        touched, before = 0, dict(counts(tree, ()))
        self.assertExact(state(watch), [False, (), 0, 0, []])
        for event, lot in zip(events, lots_behind(events)):
            # A trip was touched for each part more or less that goes; one button makes that one at most.
            now = dict(counts(tree, lot))
            differences = [abs(now[way] - before[way]) for way in now]
            self.assertLessEqual(max(differences, default=0), 1)
            touched, before = touched + sum(differences), now
            self.assertExact(tell(watch, event), plain_goes(tree, lot))
            self.assertExact(state(watch), [plain_goes(tree, lot), lot, touched, len(lot), list(lot)])
            for button in leaves(tree):
                self.assertExact(button in watch, button in lot)

    def test_small_trees(self):
        rng = random.Random(71)
        for tree in SMALL_TREES[::3]:
            self.check(tree, some_events(rng, leaves(tree), 25))

    def test_great_trees(self):
        rng = random.Random(72)
        for tree in large_trees() + [STAIRS, WELL]:
            self.check(tree, some_events(rng, leaves(tree), 200))
            self.check(tree, tuple([("press", button) for button in leaves(tree)] + [("let", button) for button in leaves(tree)]))

    def test_buttons(self):
        watch = Watch(5)
        self.assertExact([watch.press(5), watch.goes, watch.press(5), watch.touched, watch.let(5), watch.goes, watch.touched],
                         [True, True, True, 0, False, False, 0])
        watch = Watch((1, ((1, (5,)),)))
        self.assertExact([watch.press(5), watch.touched, watch.press(5), watch.touched, watch.let(5), watch.touched],
                         [True, 2, True, 2, False, 4])

    def test_runs(self):
        # N9: a watch tells behind each press and let what run tells.
        rng = random.Random(73)
        for tree in SMALL_TREES[::5] + large_trees():
            events = some_events(rng, leaves(tree), 100)
            watch = Watch(tree)
            self.assertExact(tuple([tell(watch, event) for event in events]), run(tree, events))


class AnyValues(Case):

    def test_what_is_no_button(self):
        for tree in (TREE, 5, 1, 0, HALF, STAIRS, (1, (0, 1))):
            watch = Watch(tree)
            watch.press(leaves(tree)[0])
            before = state(watch)
            for value in ANY_VALUES + [True, False, BIG, (0,), [0], "0", 98]:
                if type(value) is int and value in leaves(tree):
                    continue
                self.assertRaisesExact(NoButton(value), watch.press, value)
                self.assertRaisesExact(NoButton(value), watch.let, value)
                self.assertExact(value in watch, False)
                self.assertLeavesAsItIs(watch.press, value)
                self.assertExact(state(watch), before)

    def test_true_is_not_1(self):
        watch = Watch((1, (0, 1)))
        watch.press(0)
        watch.press(1)
        self.assertExact([0 in watch, 1 in watch, False in watch, True in watch], [True, True, False, False])
        self.assertRaisesExact(NoButton(True), watch.let, True)
        self.assertExact(watch.pressed, (0, 1))

    def test_buttons_beside_the_tree(self):
        watch = Watch(TREE)
        for button in (2, 5, 99):
            self.assertRaisesExact(NoButton(button), watch.press, button)
            self.assertRaisesExact(NoButton(button), watch.let, button)
            self.assertExact(button in watch, False)

    def test_by_name(self):
        watch = Watch(tree=TREE)
        self.assertExact([watch.press(button=0), watch.press(button=1), watch.let(button=0)], [False, True, False])


class OneByOne(Case):

    def test_only_to_be_read(self):
        watch = Watch(TREE)
        for name, value in (("goes", True), ("pressed", (0,)), ("touched", 7)):
            with self.assertRaises(AttributeError):
                setattr(watch, name, value)
        self.assertExact(state(watch), [False, (), 0, 0, []])

    def test_iterating_while_buttons_are_pressed(self):
        watch = Watch(TREE)
        watch.press(0)
        watch.press(3)
        steps = iter(watch)
        watch.press(1)
        watch.let(3)
        self.assertExact(list(steps), [0, 3])
        self.assertExact(list(watch), [0, 1])
        for button in watch:
            watch.let(button)
        self.assertExact(list(watch), [])

    def test_what_was_told_stays(self):
        watch = Watch(TREE)
        watch.press(3)
        told = watch.pressed
        watch.press(0)
        self.assertExact(told, (3,))

    def test_two_watches_do_not_meet(self):
        rng = random.Random(74)
        for tree in (TREE, STAIRS, HALF):
            one, other, third = Watch(tree), Watch(tree), Watch(TREE)
            events = some_events(rng, leaves(tree), 60)
            alone = Watch(tree)
            for event in events:
                tell(one, event)
                tell(alone, event)
                tell(third, ("press", rng.choice((0, 1, 3, 4))))
                self.assertExact(state(one), state(alone))
                self.assertExact(state(other), [False, (), 0, 0, []])

    def test_the_tree_stays(self):
        self.assertLeavesAsItIs(Watch, STAIRS)
        watch = Watch((2, (0, 1)))
        watch.press(1)
        self.assertExact(state(watch), [False, (1,), 1, 1, [1]])
