"""Trees, their buttons, ways and parts: points A4 to A6."""

import random

from onescale.errors import NoButton, NoPart
from onescale.trips import buttons_of, depth_of, part_at, tree_error, way_to, ways
from tests.support import ANY_VALUES, BIG, SMALL_TREES, STAIRS, WELL, Case, all_ways, large_trees, leaves, nested

ALARM = (2, (0, (1, (3, 4)), 7))


def plain_is_button(value):
    return type(value) is int and value in range(100)


def plain_is_pair(value):
    return (type(value) is tuple and len(value) == 2 and type(value[0]) is int and type(value[1]) is tuple
            and len(value[1]) in range(1, 25))


def plain_tree_error(value):
    """By the words of A5: all ways at first, then what is wrong with each of them."""
    reached = {(): value}
    todo = [()]
    while todo:
        way = todo.pop()
        if plain_is_pair(reached[way]) and len(way) < 14:
            for place, part in enumerate(reached[way][1]):
                reached[way + (place,)] = part
                todo.append(way + (place,))
    order = sorted(reached)
    for place, way in enumerate(order):
        thing = reached[way]
        if len(way) > 12:
            return (way, "deep")
        if not plain_is_button(thing) and not plain_is_pair(thing):
            return (way, "form")
        if plain_is_pair(thing) and not 1 <= thing[0] <= len(thing[1]):
            return (way, "bound")
        if plain_is_button(thing) and [less for less in order[:place] if reached[less] == thing]:
            return (way, "twice")
    many = len([way for way in order if plain_is_button(reached[way])])
    return "many" if many > 24 else None


def spoilt(rng, thing):
    """A value like a tree, with something wrong here and there."""
    chance = rng.random()
    if chance < 0.04:
        return rng.choice([None, True, False, "5", -1, 100, 200, BIG, -BIG, (), [], {}, (1,), (1, ()), (1, (0,), 0), [3]])
    if isinstance(thing, int):
        return rng.randrange(12) if chance < 0.1 else thing
    bound, parts = thing
    parts = tuple([spoilt(rng, part) for part in parts])
    if chance < 0.1:
        bound = rng.choice([0, len(parts), len(parts) + 1, -1, BIG, True, None, "1", 1])
    if chance > 0.98:
        return [bound, parts]
    if chance > 0.96:
        return (bound, list(parts))
    return (bound, parts)


class TreeError(Case):

    def test_trees(self):
        for tree in SMALL_TREES + large_trees():
            self.assertExact(tree_error(tree), None, tree)

    def test_bounds_of_buttons(self):
        for button in (0, 1, 98, 99):
            self.assertExact(tree_error(button), None)
            self.assertExact(tree_error((1, (button,))), None)
        for value in (-1, 100, 101, BIG, -BIG, True, False, None, "0", "5"):
            self.assertExact(tree_error(value), ((), "form"))
            self.assertExact(tree_error((1, (value,))), ((0,), "form"))

    def test_bounds_of_trips(self):
        for many in (1, 2, 3, 23, 24):
            parts = tuple(range(50, 50 + many))
            for bound in (1, many):
                self.assertExact(tree_error((bound, parts)), None)
            for bound in (0, many + 1, -1, BIG, -BIG):
                self.assertExact(tree_error((bound, parts)), ((), "bound"))
                self.assertExact(tree_error((1, (0, (bound, parts)))), ((1,), "bound"))
            for bound in (True, False, None, "1", (1,)):
                self.assertExact(tree_error((bound, parts)), ((), "form"))

    def test_number_of_parts(self):
        self.assertExact(tree_error((24, tuple(range(24)))), None)
        self.assertExact(tree_error((24, tuple(range(25)))), ((), "form"))
        self.assertExact(tree_error((25, tuple(range(24)))), ((), "bound"))
        self.assertExact(tree_error((1, ())), ((), "form"))
        self.assertExact(tree_error((0, ())), ((), "form"))

    def test_number_of_buttons(self):
        dozen, baker = tuple(range(12)), tuple(range(13))
        self.assertExact(tree_error((1, ((1, dozen), (1, tuple(range(12, 24)))))), None)
        self.assertExact(tree_error((1, ((1, baker), (1, tuple(range(13, 25)))))), "many")
        self.assertExact(tree_error((1, tuple([(1, (2 * k, 2 * k + 1)) for k in range(24)]))), "many")
        self.assertExact(tree_error((1, tuple([(1, tuple(range(4 * k, 4 * k + 4))) for k in range(24)]))), "many")

    def test_many_is_told_behind_all_else(self):
        rows = [(1, (2 * k, 2 * k + 1)) for k in range(23)]
        self.assertExact(tree_error((1, tuple(rows + [(1, (98, 98))]))), ((23, 1), "twice"))
        self.assertExact(tree_error((1, tuple(rows + [(3, (98, 99))]))), ((23,), "bound"))
        self.assertExact(tree_error((1, tuple(rows + [(1, (98, 100))]))), ((23, 1), "form"))
        self.assertExact(tree_error((1, tuple(rows + [(1, (98, nested("trip", 12)))]))), ((23, 1) + (0,) * 11, "deep"))

    def test_depth(self):
        self.assertExact(tree_error(nested("trip", 13)), None)
        self.assertExact(tree_error(nested("trip", 14)), ((0,) * 13, "deep"))
        self.assertExact(tree_error(nested("trip", 40)), ((0,) * 13, "deep"))
        for wrong in (None, 100, (0, (0,)), (1, ()), [1]):
            value = wrong
            for _ in range(13):
                value = (1, (value,))
            self.assertExact(tree_error(value), ((0,) * 13, "deep"))
            self.assertExact(tree_error(value[1][0]), ((0,) * 12, "form" if wrong != (0, (0,)) else "bound"))

    def test_form(self):
        for value in ([1, (0,)], (1, [0]), (1, (0,), 1), (1,), (), [], {}, "1[0]", ((0,), 1), (0, 1), {1: (0,)}):
            self.assertExact(tree_error(value), ((), "form"), value)
            self.assertExact(tree_error((2, (7, value, value))), ((1,), "form"), value)

    def test_least_way_first(self):
        self.assertExact(tree_error((2, ((3, (1, 2)), None))), ((0,), "bound"))
        self.assertExact(tree_error((2, ((1, (1, None)), (3, (1, 2))))), ((0, 1), "form"))
        self.assertExact(tree_error((3, ((1, (1, None)), 2))), ((), "bound"))
        self.assertExact(tree_error((0, (None,))), ((), "bound"))
        self.assertExact(tree_error((1, ((1, (4, 5)), 4, None))), ((1,), "twice"))
        self.assertExact(tree_error((1, (4, (1, (5, 4)), 4))), ((1, 1), "twice"))

    def test_equal_things_are_told_apart(self):
        self.assertExact([tree_error((1, (1, True))), tree_error((1, (1, 2))), tree_error((True, (1, 2)))],
                         [((1,), "form"), None, ((), "form")])
        self.assertExact([tree_error((1, (0, False))), tree_error((2, (False, 0)))], [((1,), "form"), ((0,), "form")])

    def test_any_value(self):
        for value in ANY_VALUES:
            self.assertExact(tree_error(value), plain_tree_error(value))
            self.assertLeavesAsItIs(tree_error, value)

    def test_spoilt_trees(self):
        rng = random.Random(5)
        seen = {}
        for _ in range(4):
            for tree in SMALL_TREES + large_trees():
                value = spoilt(rng, tree)
                told = tree_error(value)
                self.assertExact(told, plain_tree_error(value), value)
                word = told[1] if isinstance(told, tuple) else told
                seen[word] = seen.get(word, 0) + 1
        for word in (None, "form", "bound", "twice"):
            self.assertGreater(seen[word], 20, word)


class Parts(Case):

    def test_all_that_stands_in_a_tree(self):
        for tree in SMALL_TREES + large_trees():
            rows = all_ways(tree)
            self.assertExact(buttons_of(tree), tuple(sorted(leaves(tree))))
            self.assertExact(ways(tree), tuple([way for way, _ in rows]))
            self.assertExact(depth_of(tree), max(len(way) for way, _ in rows))
            for way, part in rows:
                self.assertExact(part_at(tree, way), part)
                if isinstance(part, int):
                    self.assertExact(way_to(tree, part), way)

    def test_ways_are_ascending(self):
        for tree in SMALL_TREES:
            self.assertExact(list(ways(tree)), sorted(ways(tree)))

    def test_deep_trees(self):
        self.assertExact(depth_of(STAIRS), 12)
        self.assertExact(way_to(STAIRS, 11), (0,) + (1,) * 11)
        self.assertExact(way_to(STAIRS, 0), (0, 0))
        self.assertExact(part_at(STAIRS, (0,) + (1,) * 10), (1, (10, 11)))
        self.assertExact(way_to(WELL, 0), (1,) + (0,) * 11)
        self.assertExact(buttons_of(WELL), (0, 50, 51))
        self.assertExact(len(ways(WELL)), 15)

    def test_no_part(self):
        for value in ((3,), (-1,), (1, 2), (1, -1), (0, 0), (1, 0, 0), (True,), (False,), (1, True), (1, False), [], [1],
                      (None,), ("0",), ((1,),), ([],), (BIG,), (-BIG,), (1, BIG), None, 1, 0, True, "", "1", {}, {0: 1},
                      (0,) * 6000, nested("tuple", 40), nested("list", 40), "x" * 20000):
            self.assertRaisesExact(NoPart(value), part_at, ALARM, value)
        for tree in (5, 0, 1):
            self.assertExact(part_at(tree, ()), tree)
            for value in ((0,), (1,), (True,), [], None, 5, 0):
                self.assertRaisesExact(NoPart(value), part_at, tree, value)

    def test_any_value_as_a_way(self):
        for tree in SMALL_TREES[::97] + [STAIRS, WELL]:
            known = dict(all_ways(tree))
            for value in ANY_VALUES:
                is_way = type(value) is tuple and all(type(place) is int for place in value) and value in known
                if is_way:
                    self.assertExact(part_at(tree, value), known[value])
                else:
                    self.assertRaisesExact(NoPart(value), part_at, tree, value)
                self.assertLeavesAsItIs(part_at, tree, value)

    def test_given_is_the_very_value(self):
        for value in ([], {}, [1, 2]):
            with self.assertRaises(NoPart) as caught:
                part_at(ALARM, value)
            self.assertIs(caught.exception.given, value)
            with self.assertRaises(NoButton) as caught:
                way_to(ALARM, value)
            self.assertIs(caught.exception.given, value)

    def test_no_button(self):
        for value in (1, 2, 5, 99, 100, -1, BIG, True, False, None, "0", (0,), [0], (), {}, ALARM, (1, (3, 4))):
            self.assertRaisesExact(NoButton(value), way_to, ALARM, value)
        self.assertRaisesExact(NoButton(True), way_to, (1, (1, 0)), True)
        self.assertRaisesExact(NoButton(False), way_to, (1, (1, 0)), False)
        self.assertRaisesExact(NoButton(True), way_to, 1, True)
        self.assertRaisesExact(NoButton(False), way_to, 0, False)

    def test_any_value_as_a_button(self):
        for tree in SMALL_TREES[::97] + [STAIRS, WELL]:
            known = {part: way for way, part in all_ways(tree) if isinstance(part, int)}
            for value in ANY_VALUES:
                if type(value) is int and value in known:
                    self.assertExact(way_to(tree, value), known[value])
                else:
                    self.assertRaisesExact(NoButton(value), way_to, tree, value)
                self.assertLeavesAsItIs(way_to, tree, value)
