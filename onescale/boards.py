"""Boards: names with their rules, edits that can be taken back, and answers that are kept."""

from onescale.bounds import MAX_EDITS
from onescale.edits import table_behind
from onescale.errors import NothingToRedo, NothingToUndo, NoVersion, TooManyEdits, TripError, Unfit
from onescale.helpers import is_integer
from onescale.lots import lot_error
from onescale.rules import rule_at, rule_goes, rule_text, rules_alike


class Board:
    """Keeps names, each with a tree or a scale for its rule; a new board keeps none."""

    def __init__(self):
        # All edits that stand, and behind them those that were taken back; and the tables: item i is that behind
        # i edits. Both are replaced, never changed, so whoever keeps them keeps a state of the board.
        self._edits = ()
        self._tables = ({},)
        self._stands = 0
        self._now = self._tables[0]
        self._answers = {}

    @property
    def table(self):
        """The ascending tuple of the pairs (name, rule)."""
        return tuple(self._now.items())

    @property
    def version(self):
        """How many edits stand."""
        return self._stands

    @property
    def log(self):
        """The tuple of the edits that stand."""
        return self._edits[:self._stands]

    @property
    def made(self):
        """Of how many pairs of rules same has told the answer."""
        return len(self._answers)

    def __len__(self):
        return len(self._now)

    def __contains__(self, value):
        return isinstance(value, str) and value in self._now

    def __getitem__(self, name):
        return rule_at(self._now, name)

    def __iter__(self):
        return iter(self._now)

    def __eq__(self, other):
        return isinstance(other, Board) and self._now == other._now

    def keep(self, name, rule):
        """The name has this rule from now on; the new version."""
        return self.do(("keep", name, rule))

    def drop(self, name):
        """The name is not kept any more; the new version."""
        return self.do(("drop", name))

    def deed(self, name, word, items):
        """The tree of the name becomes what a deed makes of it; the new version."""
        return self.do(("deed", name, word, items))

    def pack(self, name, other):
        """The name other gets the scale of the tree of the name; the new version."""
        return self.do(("pack", name, other))

    def unpack(self, name, other):
        """The name other gets the tree of the scale of the name; the new version."""
        return self.do(("unpack", name, other))

    def batch(self, edits):
        """Edits are done one behind another, as one edit; the new version."""
        return self.do(("batch", edits))

    def do(self, edit):
        """An edit, told as a tuple of its word and its arguments, is done; the new version."""
        table = table_behind(self._now, edit)
        if self._stands == MAX_EDITS:
            raise TooManyEdits()
        # What was taken back can not be done again behind another edit.
        self._edits = self._edits[:self._stands] + (edit,)
        self._tables = self._tables[:self._stands + 1] + (table,)
        return self._stand_at(self._stands + 1)

    def _stand_at(self, version):
        """So many of the edits stand from now on; their number."""
        self._stands = version
        self._now = self._tables[version]
        return version

    def tells(self, name, lot):
        """Whether the rule of the name goes with a lot."""
        rule = self[name]
        if lot_error(lot) is not None:
            raise Unfit()
        return rule_goes(rule, lot)

    def same(self, name, other):
        """Whether with each lot the rules of both names go, or neither does."""
        one, another = self[name], self[other]
        # Rules can be nested deep, so their texts stand for them.
        key = (rule_text(one), rule_text(another))
        if key not in self._answers:
            self._answers[key] = rules_alike(one, another)
        return self._answers[key]

    def undo(self):
        """The last edit that stands is taken back; the version then."""
        if self._stands == 0:
            raise NothingToUndo()
        return self._stand_at(self._stands - 1)

    def redo(self):
        """The edit that was taken back last is done again; the version then."""
        if self._stands == len(self._edits):
            raise NothingToRedo()
        return self._stand_at(self._stands + 1)

    def at(self, version):
        """The table when so many of the edits that stand now stood."""
        if not is_integer(version) or not 0 <= version <= self._stands:
            raise NoVersion(version)
        return tuple(self._tables[version].items())

    def copy(self):
        """A board of its own with the same table, edits and answers."""
        board = Board()
        board._edits, board._tables = self._edits, self._tables
        board._stand_at(self._stands)
        board._answers = {key: self._answers[key] for key in self._answers}
        return board

    def attempt(self, work):
        """What work returns for this board; where it raises a TripError all edits are as ahead of the call."""
        edits, tables, version = self._edits, self._tables, self._stands
        try:
            return work(self)
        except TripError:
            self._edits, self._tables = edits, tables
            self._stand_at(version)
            raise
