"""Logs: the texts of edits, one a line; what can be read of them; and the boards behind them."""

from onescale.boards import Board
from onescale.bounds import MAX_NEST
from onescale.edits import is_edit
from onescale.errors import BadLog, BadText, TripError
from onescale.helpers import FIGURES, number_of

# The greatest integer that has a text is 9999999.
MOST_FIGURES = 7
MOST_SIGNS = 12
WORD_SIGNS = "abcdefghijklmnopqrstuvwxyz_"


def log_text(edits):
    """The texts of edits, each with a line feed behind it."""
    return "".join([_text_of(edit) + "\n" for edit in edits])


def _text_of(item):
    """The text of an integer, a word or a tuple."""
    if isinstance(item, tuple):
        return "(" + ",".join([_text_of(inner) for inner in item]) + ")"
    return str(item)


def read_log(value):
    """The edits of the lines of a log, which may be cut anywhere."""
    if not isinstance(value, str):
        raise BadLog(0)
    found = []
    # What stands behind the last line feed is no line.
    for place, line in enumerate(value.split("\n")[:-1]):
        try:
            found.append(read_edit(line))
        except BadText:
            raise BadLog(place)
    return tuple(found)


def read_edit(text):
    """The edit of which a string is the text."""
    edit, behind = _item_from(text, 0, 0)
    if behind < len(text) or not is_edit(edit):
        raise BadText()
    return edit


def _item_from(text, start, opened):
    """What is told from start on, and the place behind its text; so many brackets are open there."""
    if text[start:start + 1] == "(":
        return _tuple_from(text, start, opened)
    behind = start
    while behind < len(text) and text[behind] not in "(),":
        behind += 1
    signs = text[start:behind]
    if behind > start and signs[0] in FIGURES:
        return number_of(signs, MOST_FIGURES), behind
    if not 1 <= len(signs) <= MOST_SIGNS or [sign for sign in signs if sign not in WORD_SIGNS]:
        raise BadText()
    return signs, behind


def _tuple_from(text, start, opened):
    """The tuple whose bracket stands at start, and the place behind its text."""
    # So brackets by the thousand do not lead to calls by the thousand.
    if opened == MAX_NEST:
        raise BadText()
    if text[start + 1:start + 2] == ")":
        return (), start + 2
    items = []
    behind = start
    sign = ","
    while sign == ",":
        item, behind = _item_from(text, behind + 1, opened + 1)
        items.append(item)
        sign = text[behind:behind + 1]
    if sign != ")":
        raise BadText()
    return tuple(items), behind + 1


def board_behind(edits):
    """A board by which edits were done."""
    board = Board()
    for place, edit in enumerate(edits):
        try:
            board.do(edit)
        except TripError:
            raise BadLog(place)
    return board
