"""Frames and books: points L1 to L3."""

import itertools
import math
import random

from onescale.errors import Unfit
from onescale.frames import book_error, filled, frame_error, gaps
from onescale.lots import lot_error
from onescale.trips import tree_error
from tests.support import (
    ANY_VALUES, BIG, SMALL_TREES, STAIRS, WELL, Case, all_ways, large_trees, leaves, nested)
from tests.test_trips import plain_tree_error, spoilt

FRAME = (None, (0, (None, (3, 4)), 7))


def with_gaps(rng, thing, chance):
    """A tree with None for some of its bounds."""
    if isinstance(thing, int):
        return thing
    parts = tuple([with_gaps(rng, part, chance) for part in thing[1]])
    return (None if rng.random() < chance else thing[0], parts)


def _made_small_frames():
    rng = random.Random(11)
    found = [5, FRAME, (None, (1,)), (1, ((None, (0,)),)), (2, (0, (None, (3, 4)), 7)), (None, ((None, (1, 2)), (None, (0, 3))))]
    for tree in SMALL_TREES[::4]:
        found.append(with_gaps(rng, tree, 0.5))
        found.append(with_gaps(rng, tree, 1))
    return [frame for frame in found if number_of_fillings(frame) <= 200]


def plain_gaps(frame):
    return tuple([way for way, part in all_ways(frame) if isinstance(part, tuple) and part[0] is None])


def plain_sizes(frame):
    found = dict(all_ways(frame))
    return [len(found[way][1]) for way in plain_gaps(frame)]


def number_of_fillings(frame):
    return math.prod(plain_sizes(frame))


def all_fillings(frame):
    """All fillings, ascending."""
    return list(itertools.product(*[range(1, size + 1) for size in plain_sizes(frame)]))


def plain_filled(frame, bounds):
    """The tree that a filling makes, gap by gap."""
    for way, bound in zip(plain_gaps(frame), bounds):
        frame = with_bound(frame, way, bound)
    return frame


def with_bound(thing, way, bound):
    if way == ():
        return (bound, thing[1])
    parts = list(thing[1])
    parts[way[0]] = with_bound(parts[way[0]], way[1:], bound)
    return (thing[0], tuple(parts))


SMALL_FRAMES = _made_small_frames()


def as_tree(value):
    """The value with 1 for each None that stands as a bound of a trip."""
    if type(value) is not tuple or len(value) != 2 or type(value[1]) is not tuple or len(value[1]) not in range(1, 25):
        return value
    if value[0] is not None and type(value[0]) is not int:
        return value
    return (1 if value[0] is None else value[0], tuple([as_tree(part) for part in value[1]]))




class FrameError(Case):

    def test_trees(self):
        for tree in SMALL_TREES + large_trees():
            self.assertExact(frame_error(tree), None)

    def test_frames(self):
        rng = random.Random(12)
        for frame in SMALL_FRAMES:
            self.assertExact(frame_error(frame), None)
        for tree in large_trees() + [STAIRS, WELL]:
            for chance in (0.2, 1):
                self.assertExact(frame_error(with_gaps(rng, tree, chance)), None)

    def test_frames_are_no_trees(self):
        for frame in SMALL_FRAMES:
            ways = plain_gaps(frame)
            self.assertExact(tree_error(frame), (ways[0], "form") if ways else None)

    def test_spoilt_trees(self):
        rng = random.Random(13)
        errors = []
        for _ in range(3000):
            value = spoilt(rng, with_gaps(rng, rng.choice(SMALL_TREES), 0.4))
            wanted = plain_tree_error(as_tree(value))
            self.assertExact(frame_error(value), wanted, value)
            errors.append(wanted[1] if wanted else wanted)
        self.assertEqual(sorted(set(errors), key=str), [None, "bound", "form", "twice"])

    def test_gaps_with_other_faults(self):
        for value, wanted in (
                (None, ((), "form")), ((None, ()), ((), "form")), ((None, [0]), ((), "form")), ([None, (0,)], ((), "form")),
                ((None, (0,), 0), ((), "form")), ((None, None), ((), "form")), ((None,), ((), "form")),
                ((None, (None,)), ((0,), "form")), ((None, (0, 0)), ((1,), "twice")), ((None, (0, 100)), ((1,), "form")),
                ((None, ((0, (1,)), 1)), ((0,), "bound")), ((0, ((None, (1,)), 1)), ((), "bound")),
                ((None, (True, 1)), ((0,), "form")), ((False, (1,)), ((), "form")), (("None", (1,)), ((), "form")),
                ((None, tuple(range(24))), None), ((None, tuple(range(25))), ((), "form"))):
            self.assertExact(frame_error(value), wanted, value)

    def test_many(self):
        baker = (None, tuple(range(13)))
        self.assertExact(frame_error((None, (baker, (None, tuple(range(13, 24)))))), None)
        self.assertExact(frame_error((None, (baker, (None, tuple(range(13, 25)))))), "many")
        self.assertExact(frame_error((None, (baker, (None, tuple(range(13, 25)) + (0,))))), ((1, 12), "twice"))

    def test_depth(self):
        for depth in (12, 13, 40):
            value = 0
            for _ in range(depth):
                value = (None, (value,))
            self.assertExact(frame_error(value), None if depth == 12 else ((0,) * 13, "deep"))
        self.assertExact(frame_error(nested("trip", 14)), ((0,) * 13, "deep"))

    def test_any_value(self):
        for value in ANY_VALUES:
            self.assertExact(frame_error(value), plain_tree_error(as_tree(value)), value)
            self.assertExact(frame_error((None, (value, 77))), plain_tree_error((1, (as_tree(value), 77))))
            self.assertExact(frame_error((value, (0, 77))), plain_tree_error(as_tree((value, (0, 77)))))
            self.assertLeavesAsItIs(frame_error, value)


class Gaps(Case):

    def test_gaps(self):
        rng = random.Random(14)
        for frame in SMALL_FRAMES + [with_gaps(rng, tree, 0.6) for tree in large_trees()]:
            self.assertExact(gaps(frame), plain_gaps(frame))

    def test_none_and_all(self):
        for tree in SMALL_TREES[::5] + large_trees():
            trips = tuple([way for way, part in all_ways(tree) if isinstance(part, tuple)])
            self.assertExact(gaps(tree), ())
            self.assertExact(gaps(with_gaps(random.Random(0), tree, 1.1)), trips)


class Filled(Case):

    def test_all_fillings(self):
        for frame in SMALL_FRAMES:
            for filling in all_fillings(frame):
                tree = filled(frame, filling)
                self.assertExact(tree, plain_filled(frame, filling))
                self.assertExact(tree_error(tree), None)

    def test_great_frames(self):
        rng = random.Random(15)
        for tree in large_trees() + [STAIRS, WELL]:
            frame = with_gaps(rng, tree, 0.7)
            bounds = dict(all_ways(tree))
            self.assertExact(filled(frame, tuple([bounds[way][0] for way in plain_gaps(frame)])), tree)
            self.assertExact(filled(frame, tuple(plain_sizes(frame))), plain_filled(frame, plain_sizes(frame)))

    def test_edges_of_bounds(self):
        for many in (1, 2, 3, 24):
            frame = (None, tuple(range(many)))
            for bound in (1, many):
                self.assertExact(filled(frame, (bound,)), (bound, frame[1]))
                self.assertExact(filled((1, (frame,)), (bound,)), (1, ((bound, frame[1]),)))
            for bound in (0, many + 1, -1, BIG, -BIG):
                self.assertRaisesExact(Unfit(), filled, frame, (bound,))
                self.assertRaisesExact(Unfit(), filled, (1, (frame,)), (bound,))

    def test_too_few_and_too_many(self):
        for frame in SMALL_FRAMES:
            many = len(plain_gaps(frame))
            for number in range(many + 3):
                if number != many:
                    self.assertRaisesExact(Unfit(), filled, frame, (1,) * number)
            for place in range(many):
                for wrong in (0, plain_sizes(frame)[place] + 1, True, None, "1", (1,), [1], {}):
                    bounds = (1,) * place + (wrong,) + (1,) * (many - place - 1)
                    self.assertRaisesExact(Unfit(), filled, frame, bounds)

    def test_any_value(self):
        for value in ANY_VALUES:
            fits = type(value) is int and 1 <= value <= 3
            for frame in ((None, (0, 1, 2)), (1, ((None, (0, 1, 2)), 5))):
                if fits:
                    self.assertExact(filled(frame, (value,)), plain_filled(frame, (value,)))
                else:
                    self.assertRaisesExact(Unfit(), filled, frame, (value,))
                self.assertLeavesAsItIs(filled, frame, (value,))
            if type(value) is tuple and value:
                self.assertRaisesExact(Unfit(), filled, 5, value)
        self.assertExact(filled(5, ()), 5)


class BookError(Case):

    def test_books(self):
        lots = [(), (0,), (0, 3), (99,), tuple(range(100)), (5, 6, 7)]
        for many in range(13):
            book = tuple([(lots[place % 6], place % 4 < 2) for place in range(many)])
            self.assertExact(book_error(book), None)
        self.assertExact(book_error((((0,), True),) * 12), None)

    def test_12_and_13_lines(self):
        line = ((0, 1), False)
        self.assertExact([book_error((line,) * 12), book_error((line,) * 13), book_error((line,) * 6000)],
                         [None, "form", "form"])
        self.assertExact(book_error((None,) * 13), "form")
        self.assertExact(book_error((None,) * 12), ("line", 0))

    def test_first_wrong_line(self):
        right = ((0, 1), False)
        for wrong in (None, (), ((0, 1),), ((0, 1), False, 1), [(0, 1), False], ((1, 0), False), ((0, 0), True), ([0], True),
                      ((100,), True), ((True,), True), ((0, 1), 0), ((0, 1), 1), ((0, 1), None), ((0, 1), "True"),
                      (tuple(range(101)), True), (0, True), (True, (0, 1)), right[::-1]):
            for place in (0, 1, 5, 11):
                book = (right,) * place + (wrong,) + (wrong,) * (11 - place)
                self.assertExact(book_error(book), ("line", place), wrong)
                self.assertExact(book_error(list(book)), "form")

    def test_any_value(self):
        for value in ANY_VALUES:
            wanted = "form"
            if type(value) is tuple and len(value) <= 12:
                wrong = [place for place, item in enumerate(value) if not (
                    type(item) is tuple and len(item) == 2 and lot_error(item[0]) is None and type(item[1]) is bool)]
                wanted = ("line", wrong[0]) if wrong else None
            self.assertExact(book_error(value), wanted)
            is_lot = lot_error(value) is None
            self.assertExact(book_error(((value, True),)), None if is_lot else ("line", 0))
            self.assertExact(book_error((((), False), ((0,), value))), None if type(value) is bool else ("line", 1))
            self.assertExact(book_error((value,)), ("line", 0))
            self.assertLeavesAsItIs(book_error, value)

    def test_buttons_need_not_stand_in_a_frame(self):
        self.assertExact(book_error((((97, 98, 99), True),)), None)
        self.assertExact(leaves(FRAME), [0, 3, 4, 7])
