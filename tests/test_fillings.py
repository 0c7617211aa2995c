"""Fillings that are left by a book, and papers that none is: points L4 to L7."""

import random

from onescale.errors import NoFilling, TooMany
from onescale.fillings import any_filling, bounds_left, fillings_left, read_lot_by
from onescale.fillpapers import filling_paper_holds
from onescale.frames import book_error, frame_error
from tests.support import ANY_VALUES, BIG, Case, HALF, STAIRS, exact, large_trees, leaves, lots_of, plain_goes
from tests.test_frames import (
    FRAME, SMALL_FRAMES, all_fillings, number_of_fillings, plain_filled, plain_sizes, with_gaps)

# 2000 is 2 * 2 * 2 * 2 * 5 * 5 * 5: gaps of so many parts each, nested in one another, with trips of one part between.
GAPS_2000 = (5, 2, 5, 2, 1, 2, 5, 2)
GAPS_2016 = (2, 2, 2, 7, 1, 2, 2, 3, 3)


def nested_gaps(sizes):
    """A frame of gaps with so many parts, each a part of the one ahead of it."""
    frame, button = 0, 1
    for size in sizes[::-1]:
        frame = (None, (frame,) + tuple(range(button, button + size - 1)))
        button += size - 1
    return frame


FRAME_2000 = nested_gaps(GAPS_2000)
FRAME_2016 = nested_gaps(GAPS_2016)
FLAT_2000 = (2, ((None, (0, 1, 2, 3, 4)), (None, (10, 11, 12, 13, 14)), (None, (20, 21, 22, 23, 24)), (None, (30, 31, 32, 33)),
                 (None, (40, 41, 42, 43))))
TOO_GREAT = [FRAME_2016, (1, (FRAME_2016,)), (None, (50, FRAME_2000)),
             (3, tuple([(None, (4 * k, 4 * k + 1, 4 * k + 2, 4 * k + 3)) for k in range(6)])),
             (None, tuple([(None, (2 * k, 2 * k + 1)) for k in range(12)])),
             (None, tuple([(None, (3 * k, 3 * k + 1, 3 * k + 2)) for k in range(8)]))]


def plain_against(frame, filling, book):
    """The places of the lines that a filling goes against."""
    tree = plain_filled(frame, filling)
    return [place for place, (lot, went) in enumerate(book) if plain_goes(tree, lot) != went]


def plain_left(frame, book):
    return [filling for filling in all_fillings(frame) if not plain_against(frame, filling, book)]


def plain_paper_holds(frame, book, value):
    """By the words of L6."""
    if type(value) is not tuple or len(value) != 2 or type(value[0]) is not str or value[0] != "clashes":
        return False
    row, fillings = value[1], all_fillings(frame)
    if type(row) is not tuple or len(row) != len(fillings):
        return False
    return all(type(place) is int and place in plain_against(frame, filling, book) for place, filling in zip(row, fillings))


def random_book(rng, frame, most=12):
    """A book by the tree of some filling, perhaps with a line or two that are not."""
    tree = plain_filled(frame, rng.choice(all_fillings(frame)))
    buttons = leaves(frame) + [98]
    book = []
    for _ in range(rng.randint(0, most)):
        lot = tuple(sorted(button for button in buttons if rng.random() < 0.6))
        book.append((lot, plain_goes(tree, lot) != (rng.random() < 0.1)))
    return tuple(book)


def some_books(rng, frame, many):
    return [()] + [random_book(rng, frame) for _ in range(many)]


class Left(Case):

    def check(self, frame, book):
        left = plain_left(frame, book)
        self.assertExact(fillings_left(frame, book), len(left), (frame, book))
        self.assertExact(bounds_left(frame, book), tuple([tuple(sorted(set(filling[place] for filling in left)))
                                                          for place in range(len(plain_sizes(frame)))]))
        if left:
            found = any_filling(frame, book)
            self.assertIn(exact(found), [exact(filling) for filling in left])
            self.assertExact(any_filling(frame, book), found)
        else:
            with self.assertRaises(NoFilling) as caught:
                any_filling(frame, book)
            paper = caught.exception.paper
            self.assertTrue(plain_paper_holds(frame, book, paper), (frame, book, paper))
            self.assertExact(filling_paper_holds(frame, book, paper), True)
            self.assertRaisesExact(NoFilling(paper), any_filling, frame, book)
        return left

    def check_lot(self, frame, book, left, lot):
        states = set(plain_goes(plain_filled(frame, filling), lot) for filling in left)
        if not left:
            with self.assertRaises(NoFilling) as caught:
                read_lot_by(frame, book, lot)
            self.assertTrue(plain_paper_holds(frame, book, caught.exception.paper))
        else:
            wanted = states.pop() if len(states) == 1 else None
            self.assertExact(read_lot_by(frame, book, lot), wanted, (frame, book, lot))

    def test_small_frames(self):
        rng = random.Random(21)
        none = 0
        for frame in SMALL_FRAMES[::2]:
            for book in some_books(rng, frame, 4):
                self.assertExact([frame_error(frame), book_error(book)], [None, None])
                left = self.check(frame, book)
                none += not left
                for lot in rng.sample(lots_of(leaves(frame)), min(4, 2 ** len(leaves(frame)))) + [(), (98,)]:
                    self.check_lot(frame, book, left, lot)
        self.assertGreater(none, 100)

    def test_trees(self):
        # A frame without gaps has one filling.
        for tree in (5, (1, (0,)), HALF, STAIRS, (2, (0, (1, (3, 4)), 7))):
            going = tuple(sorted(leaves(tree)))
            for book, left in (((), 1), (((going, True),), 1), (((going, False),), 0), ((((), False),), 1), ((((), True),), 0)):
                self.assertExact(fillings_left(tree, book), left)
                self.assertExact(bounds_left(tree, book), ())
                if left:
                    self.assertExact(any_filling(tree, book), ())
                    self.assertExact([read_lot_by(tree, book, going), read_lot_by(tree, book, ())], [True, False])
                else:
                    self.assertRaisesExact(NoFilling(("clashes", (0,))), any_filling, tree, book)
                    self.assertRaisesExact(NoFilling(("clashes", (0,))), read_lot_by, tree, book, going)

    def test_no_filling_leaves_no_bounds(self):
        book = (((), True),)
        self.assertExact([fillings_left(FRAME, book), bounds_left(FRAME, book)], [0, ((), ())])
        self.assertExact(bounds_left((None, ((None, (1,)), 0)), book), ((), ()))

    def test_books_of_12_lines(self):
        rng = random.Random(22)
        for frame in SMALL_FRAMES[::9]:
            filling = rng.choice(all_fillings(frame))
            tree = plain_filled(frame, filling)
            lots = [rng.choice(lots_of(leaves(frame))) for _ in range(12)]
            book = tuple([(lot, plain_goes(tree, lot)) for lot in lots])
            self.assertIn(filling, self.check(frame, book))
            # The last line alone may leave none.
            self.check(frame, book[:11] + ((book[11][0], not book[11][1]),))
            self.check(frame, book[:11] + (((), True),))

    def test_2000_fillings(self):
        rng = random.Random(23)
        for frame in (FRAME_2000, FLAT_2000):
            self.assertExact(frame_error(frame), None)
            self.assertEqual(number_of_fillings(frame), 2000)
            self.assertExact(fillings_left(frame, ()), 2000)
            self.assertExact(bounds_left(frame, ()), tuple([tuple(range(1, size + 1)) for size in plain_sizes(frame)]))
            self.assertIn(any_filling(frame, ()), all_fillings(frame))
            book = random_book(rng, frame, 3)
            left = self.check(frame, book)
            self.check_lot(frame, book, left, tuple(sorted(leaves(frame)[::2])))
            none = (((), False), ((), True))
            self.check(frame, none)
            self.assertExact(filling_paper_holds(frame, none, ("clashes", (1,) * 2000)), True)
            self.assertExact(filling_paper_holds(frame, none, ("clashes", (1,) * 1999 + (0,))), False)
            self.assertExact(filling_paper_holds(frame, none, ("clashes", (1,) * 1999)), False)
            self.assertExact(filling_paper_holds(frame, none, ("clashes", (1,) * 2001)), False)

    def test_more_than_2000_fillings(self):
        everything = tuple(range(100))
        for frame in TOO_GREAT:
            self.assertExact(frame_error(frame), None)
            self.assertGreater(number_of_fillings(frame), 2000)
            # Ahead of all else: also where no filling is left, and where a value is no paper.
            for book in ((), (((), True),), ((everything, False),), ((everything, True),) * 12):
                for function in (fillings_left, any_filling, bounds_left):
                    self.assertRaisesExact(TooMany(2000), function, frame, book)
                for lot in ((), (0, 3), everything):
                    self.assertRaisesExact(TooMany(2000), read_lot_by, frame, book, lot)
                for value in (None, 0, True, "clashes", ("clashes", ()), ("clashes", (0,) * 2016), ["clashes", (0,)]):
                    self.assertRaisesExact(TooMany(2000), filling_paper_holds, frame, book, value)
        self.assertEqual(number_of_fillings(FRAME_2016), 2016)

    def test_great_frames(self):
        rng = random.Random(24)
        for tree in large_trees() + [STAIRS]:
            frame = with_gaps(rng, tree, 0.25)
            while number_of_fillings(frame) > 200:
                frame = with_gaps(rng, tree, 0.15)
            book = random_book(rng, frame, 5)
            left = self.check(frame, book)
            for _ in range(3):
                self.check_lot(frame, book, left, tuple(sorted(b for b in leaves(frame) if rng.random() < 0.5)))


class Papers(Case):

    def test_papers_of_all_places(self):
        rng = random.Random(25)
        for frame in [frame for frame in SMALL_FRAMES if 2 <= number_of_fillings(frame) <= 12][::4]:
            for book in some_books(rng, frame, 2) + [(((), True),), (((), True), ((), False), (tuple(sorted(leaves(frame))), False))]:
                fillings = all_fillings(frame)
                for _ in range(12):
                    row = []
                    for filling in fillings:
                        right = plain_against(frame, filling, book)
                        row.append(rng.choice(right) if right and rng.random() < 0.95 else rng.randint(-1, len(book)))
                    value = ("clashes", tuple(row))
                    self.assertExact(filling_paper_holds(frame, book, value), plain_paper_holds(frame, book, value))

    def test_what_is_almost_a_paper(self):
        book = (((0,), True), ((0, 3, 4), False))
        row = (1, 1, 0, 0, 0, 0)
        self.assertExact(filling_paper_holds(FRAME, book, ("clashes", row)), True)
        for value in (row, ("clashes",), ("clashes", row, row), ["clashes", row], ("clashes", list(row)), ("clash", row),
                      (None, row), (0, row), (row, "clashes"), ("clashes", None), ("clashes", 1), ("clashes", "110000"),
                      ("clashes", ()), ("clashes", row + (0,)), ("clashes", row[:5]), {"clashes": row}, (["clashes"], row),
                      ("clashes", (1, 1, 0, 0, 0, False)), ("clashes", (True,) + row[1:]), ("clashes", (1, 1, 0, 0, 0, None)),
                      ("clashes", (1, 1, 0, 0, 0, 2)), ("clashes", (1, 1, 0, 0, 0, -1)), ("clashes", (-1,) + row[1:]),
                      ("clashes", (1, 1, 0, 0, 0, BIG)), ("clashes", (1, 1, 0, 0, 0, -BIG)), ("clashes", (1, 1, 0, 0, 0, "0")),
                      ("clashes", (1, 1, 0, 0, 0, (0,))), ("clashes", (1, 1, 0, 0, 0, [0]))):
            self.assertExact(filling_paper_holds(FRAME, book, value), False, value)
            self.assertLeavesAsItIs(filling_paper_holds, FRAME, book, value)

    def test_any_value(self):
        for frame, book in ((FRAME, (((), True),)), (FRAME, ()), (5, (((), True), ((5,), False))), ((None, (1,)), (((), True),))):
            for value in ANY_VALUES:
                self.assertExact(filling_paper_holds(frame, book, value), False, value)
                self.assertExact(filling_paper_holds(frame, book, ("clashes", value)),
                                 plain_paper_holds(frame, book, ("clashes", value)), value)
                self.assertExact(filling_paper_holds(frame, book, (value, (0,))), False)
                self.assertExact(filling_paper_holds(frame, book, ("clashes", (value,))),
                                 plain_paper_holds(frame, book, ("clashes", (value,))), value)
                self.assertLeavesAsItIs(filling_paper_holds, frame, book, ("clashes", value))

    def test_one_filling(self):
        book = (((), True), ((5,), False), ((), False))
        self.assertExact([filling_paper_holds(5, book, ("clashes", (place,))) for place in (0, 1, 2, 3, True, False)],
                         [True, True, False, False, False, False])

    def test_an_empty_book_has_no_paper(self):
        for frame in SMALL_FRAMES[::11]:
            self.assertExact(filling_paper_holds(frame, (), ("clashes", (0,) * number_of_fillings(frame))), False)


class WhatHolds(Case):

    def test_one_line_more(self):
        rng = random.Random(26)
        for frame in SMALL_FRAMES[::3]:
            for _ in range(4):
                book = random_book(rng, frame, 6)
                more = random_book(rng, frame, 6)
                both = set(plain_left(frame, book)) & set(plain_left(frame, more))
                self.assertExact(fillings_left(frame, book + more), len(both))
                numbers = [fillings_left(frame, (book + more)[:many]) for many in range(len(book + more) + 1)]
                self.assertEqual(numbers, sorted(numbers, reverse=True))

    def test_lots_that_are_read(self):
        rng = random.Random(27)
        states = []
        for frame in SMALL_FRAMES[::2]:
            for _ in range(3):
                book = random_book(rng, frame, 5)
                left = fillings_left(frame, book)
                if left == 0:
                    continue
                for lot in rng.sample(lots_of(leaves(frame)), min(6, 2 ** len(leaves(frame)))):
                    state = read_lot_by(frame, book, lot)
                    states.append(state)
                    going, failing = [fillings_left(frame, book + ((lot, went),)) for went in (True, False)]
                    self.assertExact(going + failing, left)
                    if state is None:
                        self.assertTrue(going and failing)
                    else:
                        self.assertExact((going, failing), (left, 0) if state else (0, left))
        self.assertTrue({True, False, None} <= set(states))

    def test_paper_exactly_if_none_is_left(self):
        rng = random.Random(28)
        for frame in SMALL_FRAMES[::3]:
            for book in some_books(rng, frame, 4):
                fillings = all_fillings(frame)
                rows = [plain_against(frame, filling, book) for filling in fillings]
                row = tuple([places[-1] if places else 0 for places in rows])
                self.assertExact(filling_paper_holds(frame, book, ("clashes", row)), fillings_left(frame, book) == 0)
