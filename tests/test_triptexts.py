"""The texts of trees and of lots: point A9."""

import itertools
import random
import re

from onescale.errors import BadText
from onescale.triptexts import lot_text, read_lot, read_tree, tree_text
from tests.support import ANY_VALUES, BIG, SMALL_TREES, STAIRS, WELL, Case, large_trees, lots_of, nested
from tests.test_lots import plain_lot_error
from tests.test_trips import plain_tree_error


def plain_tree_text(tree):
    if isinstance(tree, int):
        return f"{tree:d}"
    return f"{tree[0]:d}[{','.join(plain_tree_text(part) for part in tree[1])}]"


def texts_by_length(length, figures):
    """All texts with so many signs that look like texts of things: numbers, and brackets around such texts."""
    numbers = ["".join(signs) for signs in itertools.product(figures, repeat=length)] if length in (1, 2) else []
    found = [text for text in numbers if len(text) == 1 or text[0] != "0"]
    for head in (1, 2):
        if length - head - 2 > 0:
            for bound in [text for text in texts_by_length(head, figures) if "[" not in text]:
                found.extend(f"{bound}[{within}]" for within in rows_by_length(length - head - 2, figures))
    return found


def rows_by_length(length, figures):
    """All rows of such texts with commas between, with so many signs."""
    found = list(texts_by_length(length, figures))
    for first in range(1, length - 1):
        rest = rows_by_length(length - first - 1, figures)
        found.extend(f"{text},{more}" for text in texts_by_length(first, figures) for more in rest)
    return found


def value_of(text):
    """The value that such a text looks like."""
    return eval(re.sub("([0-9]+)\\[", "(\\1,(", text).replace("]", ",))"), {})


class TreeTexts(Case):

    def test_there_and_back(self):
        for tree in SMALL_TREES + large_trees():
            text = tree_text(tree)
            self.assertExact(text, plain_tree_text(tree))
            self.assertExact(read_tree(text), tree)

    def test_unlike_trees_have_unlike_texts(self):
        trees = set(SMALL_TREES)
        self.assertEqual(len(set(tree_text(tree) for tree in trees)), len(trees))

    def test_buttons_and_bounds_of_two_figures(self):
        for number in range(100):
            self.assertExact(tree_text(number), str(number))
            self.assertExact(read_tree(str(number)), number)
        for bound in range(1, 25):
            tree = (bound, tuple(range(70, 94)))
            self.assertExact(read_tree(tree_text(tree)), tree)

    def test_wrong_texts(self):
        for text in ("", " ", "00", "07", "100", "-1", "+1", " 5", "5 ", "5\n", "\n5", "1_0", "0x5", "5.", "5,", ",5", "none",
                     "None", "True", "[", "]", "[]", "[5]", "1[", "1]", "1[]", "1[5", "1[5]]", "1[5],", "1[5,]", "1[,5]",
                     "1[5 ]", "1 [5]", "1[ 5]", "1[5],6", "1[5]6", "1[5,,6]", "1[5]1[6]", "1[[5]]", "(1,(5,))", "1(5)",
                     "1{5}", "0[5]", "2[5]", "01[5]", "1[05]", "1[100]", "1[5,5]", "2[0,1[0,3]]", "3[0,1]", "2[0, 1]", "1[5;6]",
                     "25[" + ",".join(str(button) for button in range(25)) + "]",
                     "1[" + ",".join(str(button) for button in range(25)) + "]",
                     "1[1[" + ",".join(str(button) for button in range(13)) + "],1["
                     + ",".join(str(button) for button in range(13, 26)) + "]]",
                     "1" * 20000, "0" * 5000, "9" * 5000, str(BIG), "1[" + "9" * 5000 + "]", "9" * 5000 + "[5]",
                     "[" * 20000, "]" * 20000, "1[" * 10000, "1[" * 5000 + "5" + "]" * 5000, "1[5" + "]" * 10000,
                     "," * 20000, "1[" + "5," * 5000 + "5]", "x" * 20000):
            self.assertRaisesExact(BadText(), read_tree, text)

    def test_depth(self):
        self.assertExact(read_tree("1[" * 12 + "0" + "]" * 12), nested("trip", 13))
        self.assertRaisesExact(BadText(), read_tree, "1[" * 13 + "0" + "]" * 13)
        self.assertExact(read_tree(tree_text(STAIRS)), STAIRS)
        self.assertExact(read_tree(tree_text(WELL)), WELL)

    def test_number_of_parts(self):
        row = ",".join(str(button) for button in range(24))
        self.assertExact(read_tree("24[" + row + "]"), (24, tuple(range(24))))
        self.assertExact(read_tree("1[1[" + row + "]]"), (1, ((1, tuple(range(24))),)))

    def test_all_short_texts(self):
        right = {}
        for length in range(1, 8):
            for text in texts_by_length(length, "012"):
                value = value_of(text)
                if plain_tree_error(value) is None:
                    right[text] = value
        self.assertGreater(len(right), 100)
        for length in range(7):
            for signs in itertools.product("012[], ", repeat=length):
                text = "".join(signs)
                self.check(text, right)
        for text in right:
            self.check(text, right)

    def check(self, text, right):
        try:
            tree = read_tree(text)
        except BadText:
            self.assertNotIn(text, right)
        else:
            self.assertIn(text, right)
            self.assertExact(tree, right[text])

    def test_spoilt_texts(self):
        rng = random.Random(9)
        for tree in SMALL_TREES * 3 + large_trees() * 5:
            text = tree_text(tree)
            place = rng.randrange(len(text) + 1)
            text = rng.choice([text[:place] + rng.choice("0123456789[], \nx") + text[place:],
                               text[:place] + text[place + 1:], text[:place], text + text])
            try:
                found = read_tree(text)
            except BadText:
                continue
            self.assertExact(plain_tree_error(found), None)
            self.assertExact(plain_tree_text(found), text)

    def test_any_value(self):
        for value in ANY_VALUES:
            if value in ("0", "1", "5"):
                self.assertExact(read_tree(value), int(value))
            else:
                self.assertRaisesExact(BadText(), read_tree, value)
            self.assertLeavesAsItIs(read_tree, value)


class LotTexts(Case):

    def test_there_and_back(self):
        for lot in lots_of((0, 1, 9, 10, 11, 98, 99)) + [tuple(range(100)), tuple(range(5, 100, 9))]:
            text = lot_text(lot)
            self.assertExact(text, " ".join(f"{button:d}" for button in lot) or "none")
            self.assertExact(read_lot(text), lot)

    def test_wrong_texts(self):
        for text in ("", " ", "  ", "None", "none ", " none", "none none", "0 none", "none 0", "3 0", "0 0", "0  3", " 0", "0 ",
                     "0,3", "0\n3", "0\n", "00", "07", "0 07", "100", "0 100", "-1", "-1 0", "+1", "1.", "1_0", "x", "0 x",
                     "0 1[2]", "()", "(0, 3)", "5" * 20000, "0" * 5000, "0 " + "9" * 5000, "0 " * 10000, " " * 20000,
                     " ".join(str(number) for number in range(101)), " ".join(["5"] * 5000), "[" * 20000, "1[" * 10000):
            self.assertRaisesExact(BadText(), read_lot, text)

    def test_all_short_texts(self):
        for length in range(6):
            for signs in itertools.product("0129 ,n", repeat=length):
                text = "".join(signs)
                words = text.split(" ")
                lot = tuple([int(word) if word in ("0", "1", "2", "9") or len(word) == 2 and word.isdigit()
                             and word[0] != "0" else None for word in words])
                if plain_lot_error(lot) is None:
                    self.assertExact(read_lot(text), lot)
                else:
                    self.assertRaisesExact(BadText(), read_lot, text)

    def test_any_value(self):
        for value in ANY_VALUES:
            if value == "none":
                self.assertExact(read_lot(value), ())
            elif value in ("0", "1", "5"):
                self.assertExact(read_lot(value), (int(value),))
            else:
                self.assertRaisesExact(BadText(), read_lot, value)
            self.assertLeavesAsItIs(read_lot, value)
