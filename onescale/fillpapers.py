"""Papers that a book leaves no filling of a frame."""

from onescale.fillings import lines_against
from onescale.helpers import is_integer


def filling_paper_holds(frame, book, value):
    """Whether any value is a paper that no filling of a frame is left by a book."""
    against = lines_against(frame, book)
    if not isinstance(value, tuple) or len(value) != 2 or value[0] != "clashes":
        return False
    row = value[1]
    if not isinstance(row, tuple) or len(row) != len(against):
        return False
    return not [place for place, lines in zip(row, against) if not _is_line_of(place, lines, len(book))]


def _is_line_of(value, lines, many):
    """Whether any value is the place of one of the lines, told by the bits of a number, of a book of so many."""
    return is_integer(value) and 0 <= value < many and (lines >> value) & 1 == 1
