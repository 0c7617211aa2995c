"""The texts of trees and of lots."""

from onescale.bounds import MAX_DEPTH
from onescale.errors import BadText
from onescale.helpers import FIGURES, is_trip, number_of
from onescale.lots import lot_error
from onescale.trips import tree_error

# No button and no bound has more.
MOST_FIGURES = 2


def tree_text(tree):
    """The text of a tree."""
    if not is_trip(tree):
        return str(tree)
    bound, parts = tree
    return str(bound) + "[" + ",".join([tree_text(part) for part in parts]) + "]"


def read_tree(value):
    """The tree of which value is the text."""
    if not isinstance(value, str):
        raise BadText()
    tree, behind = _thing_from(value, 0, 0)
    if behind < len(value) or tree_error(tree) is not None:
        raise BadText()
    return tree


def _thing_from(text, start, depth):
    """What is told from start on, and the place behind its text; depth brackets are open there."""
    number, behind = _number_from(text, start)
    if text[behind:behind + 1] != "[":
        return number, behind
    # What is nested deeper is no tree; so brackets by the thousand do not lead to calls by the thousand.
    if depth == MAX_DEPTH:
        raise BadText()
    parts = []
    sign = ","
    while sign == ",":
        part, behind = _thing_from(text, behind + 1, depth + 1)
        parts.append(part)
        sign = text[behind:behind + 1]
    if sign != "]":
        raise BadText()
    return (number, tuple(parts)), behind + 1


def _number_from(text, start):
    """The integer whose figures begin at start, and the place behind them."""
    behind = start
    while behind < len(text) and text[behind] in FIGURES:
        behind += 1
    return number_of(text[start:behind], MOST_FIGURES), behind


def lot_text(lot):
    """The text of a lot."""
    return " ".join([str(button) for button in lot]) if lot else "none"


def read_lot(value):
    """The lot of which value is the text."""
    if not isinstance(value, str):
        raise BadText()
    if value == "none":
        return ()
    lot = tuple([number_of(word, MOST_FIGURES) for word in value.split(" ")])
    if lot_error(lot) is not None:
        raise BadText()
    return lot
