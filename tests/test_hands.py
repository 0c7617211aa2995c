"""Hands: points M8 and M9."""

import itertools
import random

from onescale.hands import fewest_lost, hands_hold
from onescale.nests import is_nest
from onescale.told import told
from tests.support import (
    ANY_VALUES, BIG, HALF, SMALL_TREES, STAIRS, WELL, Case, all_ways, exact, large_trees, leaves, random_tree, shuffled)

WIDE = (1, ((2, (0, 1)), (2, (2, 3)), (2, (4, (1, (5, 6))))))
DEEP = (2, (0, (1, ((2, (1, 2)), (2, (3, 4))))))


def all_hands(plain):
    """The ways of all hands of a told tree, with how many buttons each loses."""
    return [(way, len(leaves(part)) - 1) for way, part in all_ways(plain) if isinstance(part, tuple) and way != ()]


def turned(plain, ways):
    """The told tree with each of the trips at these ways turned to one of its buttons."""
    def thing(part, way):
        if way in ways:
            return leaves(part)[-1]
        if isinstance(part, int):
            return part
        return (part[0], tuple([thing(inner, way + (place,)) for place, inner in enumerate(part[1])]))
    return thing(plain, ())


def do(plain, ways):
    """Whether hands do, by the words of M8."""
    if any(one != other and other[:len(one)] == one for one, other in itertools.permutations(ways, 2)):
        return False
    return is_nest(turned(plain, ways))


def by_all_choices(tree):
    """The least number that hands which do lose, and all that lose so many."""
    plain = told(tree)
    hands = all_hands(plain)
    best, found = None, []
    for many in range(len(hands) + 1):
        for chosen in itertools.combinations(hands, many):
            lost = sum(loss for _, loss in chosen)
            ways = tuple(sorted(way for way, _ in chosen))
            if (best is None or lost <= best) and do(plain, ways):
                found = [ways] if lost != best else found + [ways]
                best = lost
    return best, found


def by_recursion(thing):
    """lost(T), by the words of M9."""
    trips = [part for part in thing[1] if isinstance(part, tuple)] if isinstance(thing, tuple) else []
    if not trips:
        return 0
    return min(sum(len(leaves(other)) - 1 for place, other in enumerate(trips) if place != stays) + by_recursion(trips[stays])
               for stays in range(len(trips)))


def some_trees():
    """Trees with several trips in one another and beside one another."""
    rng = random.Random(51)
    found = [WIDE, DEEP]
    while len(found) < 60:
        tree = random_tree(rng, rng.sample(range(20), rng.choice((6, 8, 9, 10))), 4)
        if 2 <= len(all_hands(told(tree))) <= 9 and not is_nest(tree):
            found.append(tree)
    return found


SOME_TREES = some_trees()


class FewestLost(Case):

    def check(self, tree, least, choices):
        lost, ways = fewest_lost(tree)
        self.assertExact(lost, least, tree)
        self.assertIn(exact(ways), [exact(choice) for choice in choices], tree)
        self.assertExact(fewest_lost(tree), (lost, ways))
        self.assertExact(hands_hold(tree, (lost, ways)), True)

    def test_all_choices(self):
        for tree in SMALL_TREES[::2] + SOME_TREES:
            self.check(tree, *by_all_choices(tree))

    def test_great_trees(self):
        rng = random.Random(52)
        trees = large_trees() + [STAIRS, WELL] + [random_tree(rng, rng.sample(range(100), 24), 12, 0.02) for _ in range(40)]
        most = 0
        for tree in trees:
            lost, ways = fewest_lost(tree)
            self.assertExact(lost, by_recursion(told(tree)))
            most = max(most, lost)
            hands = dict(all_hands(told(tree)))
            self.assertExact(list(ways), sorted(set(ways)))
            self.assertEqual(sum(hands[way] for way in ways), lost)
            self.assertTrue(do(told(tree), ways))
            self.assertExact(hands_hold(tree, (lost, ways)), True)
            self.assertExact([hands_hold(tree, (lost + 1, ways)), hands_hold(tree, (lost - 1, ways))], [False, False])
        self.assertGreater(most, 5)

    def test_nests_lose_nothing(self):
        for tree in SMALL_TREES + large_trees() + SOME_TREES:
            found = fewest_lost(tree)
            self.assertExact(found == (0, ()), is_nest(tree))
            self.assertExact(found[0] == 0, is_nest(tree))

    def test_recursion(self):
        for tree in SMALL_TREES + SOME_TREES:
            self.assertExact(fewest_lost(tree)[0], by_recursion(told(tree)))

    def test_buttons(self):
        for button in (0, 1, 99):
            for tree in (button, (1, (button,))):
                self.assertExact(fewest_lost(tree), (0, ()))
                self.assertExact([hands_hold(tree, value) for value in ((0, ()), (0, ((),)), (False, ()), (0, ((0,),)), button)],
                                 [True, False, False, False, False])

    def test_told_trees_count(self):
        # Ways and trips are those of the told tree, however the tree is written.
        rng = random.Random(53)
        for tree in SOME_TREES[:30]:
            other = shuffled(rng, tree)
            self.assertExact(fewest_lost(other)[0], fewest_lost(tree)[0])
            self.assertExact(hands_hold(other, fewest_lost(tree)), True)
        written = (1, ((1, (0, 1)), (1, (2, 3))))
        self.assertExact(fewest_lost(written), (0, ()))
        self.assertExact(hands_hold(written, (1, ((0,),))), False)


class HandsHold(Case):

    def test_all_choices(self):
        for tree in SOME_TREES[::2] + SMALL_TREES[-60::3]:
            least, choices = by_all_choices(tree)
            ways = [way for way, _ in all_ways(told(tree))]
            for chosen in itertools.chain(*[itertools.combinations(ways, many) for many in range(3)]):
                self.assertExact(hands_hold(tree, (least, chosen)), chosen in choices, (tree, chosen))
            for choice in choices:
                self.assertExact(hands_hold(tree, (least, choice)), True)
                for lost in (least - 1, least + 1, None, str(least), (least,), [least], float(least)):
                    self.assertExact(hands_hold(tree, (lost, choice)), False)
                if choice:
                    self.assertExact(hands_hold(tree, (least, choice + choice[-1:])), False)
                    self.assertExact(hands_hold(tree, (least, choice[:-1])), False)
                if len(choice) > 1:
                    self.assertExact(hands_hold(tree, (least, choice[::-1])), False)
                for value in ([least, choice], (least, list(choice)), (least,), (least, choice, 0), choice, least,
                              (choice, least), (least, tuple([list(way) for way in choice]) if choice else [])):
                    self.assertExact(hands_hold(tree, value), False, value)

    def test_more_hands_than_needed(self):
        # Hands that do and lose more.
        for tree in SOME_TREES:
            least, _ = by_all_choices(tree)
            hands = all_hands(told(tree))
            outer = tuple([way for way, _ in hands if len(way) == 1])
            lost = sum(loss for way, loss in hands if len(way) == 1)
            self.assertTrue(do(told(tree), outer))
            self.assertExact(hands_hold(tree, (lost, outer)), False)
            self.assertExact(hands_hold(tree, (least, outer)), False)

    def test_one_way_within_another(self):
        self.assertExact([hands_hold(DEEP, (lost, ((1,), (1, 0)))) for lost in (1, 3, 4)], [False] * 3)
        tree = (1, ((2, (0, (1, (1, 2)))), (2, (3, 4)), (2, (5, 6, 7, 8, 9))))
        self.assertExact(fewest_lost(tree), (3, ((0,), (1,))))
        self.assertExact(hands_hold(tree, (3, ((0, 1), (1,)))), False)
        self.assertExact(hands_hold(tree, (3, ((0,), (0, 1)))), False)
        self.assertExact(hands_hold(tree, (3, ((0,), (0, 1), (1,)))), False)
        self.assertExact(hands_hold(tree, (3, ((0,), (1,)))), True)

    def test_true_is_not_1(self):
        self.assertExact(hands_hold(DEEP, (1, ((1, 0),))), True)
        for value in ((True, ((1, 0),)), (1, ((True, 0),)), (1, ((1, False),)), (1, ((True, False),))):
            self.assertExact(hands_hold(DEEP, value), False)
        self.assertExact([hands_hold(HALF, value) for value in ((0, ()), (False, ()), (0, []), [0, ()], (0,))],
                         [True, False, False, False, False])

    def test_any_value(self):
        for tree in (WIDE, DEEP, HALF, STAIRS, 5, 1):
            lost, ways = fewest_lost(tree)
            right = [exact((least, choice)) for least, choices in [by_all_choices(tree)] for choice in choices]
            for value in ANY_VALUES + [BIG, (BIG, ways), (lost, ((BIG,),)), (lost, ((-1,),)), (lost, ((0,) * 6000,))]:
                for other in (value, (lost, value), (value, ways), (lost, (value,)), (lost, ways + (value,)),
                              (lost, ((value,),)), (lost, ways, value)):
                    self.assertExact(hands_hold(tree, other), exact(other) in right, other)
                self.assertLeavesAsItIs(hands_hold, tree, (lost, (value,)))
