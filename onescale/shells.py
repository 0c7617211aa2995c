"""Shells: boards that are told what to do line by line."""

from onescale.boards import Board
from onescale.errors import BadText, TripError
from onescale.logs import read_edit
from onescale.rules import is_name, rule_text
from onescale.scaletexts import read_scale
from onescale.triptexts import read_lot, read_tree

# What is told to a line that means nothing.
WHAT = "what"


class Shell:
    """Has a board of its own, and answers lines."""

    def __init__(self):
        self._board = Board()

    def say(self, line):
        """The answer to a line, any value."""
        if not isinstance(line, str):
            return WHAT
        try:
            return self._answer(line)
        except BadText:
            # All of a line is read ahead of what it does, so nothing is done.
            return WHAT
        except TripError as error:
            return "error " + error.kind()

    def _answer(self, line):
        """The answer to a line, a string."""
        board = self._board
        if line == "names":
            return " ".join(list(board)) if len(board) > 0 else "none"
        if line == "made":
            return str(board.made)
        if line == "undo":
            return _version_text(board.undo())
        if line == "redo":
            return _version_text(board.redo())
        word, _, rest = line.partition(" ")
        if word == "rule":
            return rule_text(board[_read_name(rest)])
        if word in ("goes", "same"):
            return "yes" if self._is_so(word, rest) else "no"
        return _version_text(board.do(_read_line(word, rest)))

    def _is_so(self, word, rest):
        """The answer to a question about a name."""
        first, _, second = rest.partition(" ")
        name = _read_name(first)
        if word == "goes":
            return self._board.tells(name, read_lot(second))
        return self._board.same(name, _read_name(second))


def _version_text(version):
    """What is told behind an edit."""
    return "version " + str(version)


def _read_line(word, rest):
    """The edit that a line with this first word and this rest tells."""
    if word == "do":
        return read_edit(rest)
    if word == "drop":
        return (word, _read_name(rest))
    first, _, second = rest.partition(" ")
    if word == "keep":
        return (word, _read_name(first), _read_rule(second))
    if word in ("pack", "unpack"):
        return (word, _read_name(first), _read_name(second))
    raise BadText()


def _read_name(text):
    """The name that a text is."""
    if not is_name(text):
        raise BadText()
    return text


def _read_rule(text):
    """The tree or the scale of which this is the text."""
    return read_scale(text) if ":" in text else read_tree(text)
