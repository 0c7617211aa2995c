"""Boards: points N4 to N6, and what N9 says of them."""

import copy
import random

from onescale import deeds
from onescale.boards import Board
from onescale.errors import (
    BadBatch, BadScale, BadTree, NoName, NoNest, NothingToRedo, NothingToUndo, NoTree, NoVersion, Rejected, TooMany,
    TooManyEdits, TripError, Unfit)
from onescale.frompapers import tree_paper_holds
from onescale.fromscales import nest_of
from onescale.lots import goes, lot_error
from onescale.nests import is_nest, scale_of
from onescale.scalealike import scales_alike
from onescale.scales import scale_error, scale_goes, scale_lots
from onescale.swaps import swap_holds
from onescale.told import alike, told
from onescale.trips import tree_error
from tests.support import (
    ANY_VALUES, BIG, HALF, NEST_301, SMALL_SCALES, SMALL_TREES, STAIRS, WELL, Case, exact, large_trees, leaves, lots_of,
    plain_goes, plain_scale_goes, scale_buttons, shuffled)

ALARM = (2, (0, (2, (1, (1, (2, 3))))))
APART = (1, ((2, (0, 1)), (2, (2, 3))))
ONE = (((0, 2), (1, 2), (2, 1), (3, 1)), 5)
NO_TREE = (((0, 3), (1, 2), (2, 2), (3, 1)), 5)
ONES_12 = (tuple([(button, 1) for button in range(12)]), 6)
ONES_13 = (tuple([(button, 1) for button in range(13)]), 6)
WRONG_NAMES = ["", "none", "abcdefghi", "A", "a1", "a b", "a_b", " a", "a\n", "0", "alarm ", None, True, 0, ("a",), ["a"], {"a": 1}]
RIGHT_NAMES = ["a", "z", "abcdefgh", "nones", "non", "keep", "one"]
WORDS = {"keep": 2, "drop": 1, "deed": 3, "pack": 2, "unpack": 2, "batch": 1}
DEEDS = {"put": 2, "taken_out": 1, "bounded": 2, "dissolved": 1, "as_one": 2, "exchanged": 2}


# A board by the words of N4 to N6, told in lists and dicts that are copied.

def is_plain_name(value):
    return (type(value) is str and 1 <= len(value) <= 8 and value != "none"
            and all("a" <= sign <= "z" for sign in value))


def is_plain_scale(rule):
    return type(rule) is tuple and type(rule[0]) is tuple


def plain_rule(rules, name):
    if type(name) is not str or name not in rules:
        raise NoName(name)
    return rules[name]


def plain_keep(rules, name, rule):
    if not is_plain_name(name):
        raise Unfit()
    if type(rule) is tuple and len(rule) == 2 and type(rule[0]) is tuple:
        if scale_error(rule) is not None:
            raise BadScale(scale_error(rule))
    elif tree_error(rule) is not None:
        raise BadTree(tree_error(rule))
    plain_set(rules, name, rule)


def plain_set(rules, name, rule):
    if name not in rules and len(rules) >= 8:
        raise TooMany(8)
    rules[name] = rule


def plain_deed(rules, name, word, items):
    rule = plain_rule(rules, name)
    if is_plain_scale(rule) or type(word) is not str or word not in DEEDS:
        raise Unfit()
    if type(items) is not tuple or len(items) != DEEDS[word]:
        raise Unfit()
    rules[name] = getattr(deeds, word)(rule, *items)


def plain_pack(rules, name, other):
    rule = plain_rule(rules, name)
    if is_plain_scale(rule) or not is_plain_name(other):
        raise Unfit()
    plain_set(rules, other, scale_of(rule))


def plain_unpack(rules, name, other):
    rule = plain_rule(rules, name)
    if not is_plain_scale(rule) or not is_plain_name(other):
        raise Unfit()
    plain_set(rules, other, nest_of(rule))


def plain_drop(rules, name):
    plain_rule(rules, name)
    del rules[name]


def plain_batch(rules, edits):
    if type(edits) is not tuple or len(edits) > 12:
        raise BadBatch()
    for edit in edits:
        if type(edit) is not tuple or not edit or type(edit[0]) is not str or edit[0] == "batch" or (
                WORDS.get(edit[0]) != len(edit) - 1):
            raise BadBatch()
    for place, edit in enumerate(edits):
        try:
            PLAIN[edit[0]](rules, *edit[1:])
        except TripError:
            raise Rejected(place)


PLAIN = {"keep": plain_keep, "drop": plain_drop, "deed": plain_deed, "pack": plain_pack, "unpack": plain_unpack,
         "batch": plain_batch}


def plain_same(one, other):
    if is_plain_scale(one) != is_plain_scale(other):
        tree, scale = (other, one) if is_plain_scale(one) else (one, other)
        try:
            return nest_of(scale) == told(tree)
        except NoTree:
            return False
    return scales_alike(one, other) if is_plain_scale(one) else alike(one, other)


class Model:

    def __init__(self):
        self.done, self.undone, self.answers = [], [], []

    def rules(self, version=None):
        """The rules behind so many edits, all done anew."""
        rules = {}
        for edit in self.done if version is None else self.done[:version]:
            PLAIN[edit[0]](rules, *edit[1:])
        return rules

    def table(self, version=None):
        return tuple(sorted(self.rules(version).items()))

    def edit(self, word, *args):
        PLAIN[word](self.rules(), *copy.deepcopy(args))
        if len(self.done) == 40:
            raise TooManyEdits()
        self.done.append((word,) + args)
        self.undone = []
        return len(self.done)

    def undo(self):
        if not self.done:
            raise NothingToUndo()
        self.undone.append(self.done.pop())
        return len(self.done)

    def redo(self):
        if not self.undone:
            raise NothingToRedo()
        self.done.append(self.undone.pop())
        return len(self.done)

    def tells(self, name, lot):
        rule = plain_rule(self.rules(), name)
        if lot_error(lot) is not None:
            raise Unfit()
        return plain_scale_goes(rule, lot) if is_plain_scale(rule) else plain_goes(rule, lot)

    def same(self, name, other):
        rules = self.rules()
        one, other = plain_rule(rules, name), plain_rule(rules, other)
        found = plain_same(one, other)
        if (one, other) not in self.answers:
            self.answers.append((one, other))
        return found

    def at(self, version):
        if type(version) is not int or not 0 <= version <= len(self.done):
            raise NoVersion(version)
        return self.table(version)

    def copy(self):
        other = Model()
        other.done, other.undone, other.answers = list(self.done), list(self.undone), list(self.answers)
        return other


def outcome(function, *args):
    """What a call returns, or the class of the error and what it keeps, but for papers."""
    try:
        return ("returned", function(*args))
    except TripError as error:
        return ("raised", type(error).__name__, {key: value for key, value in vars(error).items() if key != "paper"})


def state(board):
    return [board.table, board.version, board.log, board.made, len(board), list(board),
            [board[name] for name in board], [board.at(version) for version in range(board.version + 1)]]


def plain_state(model):
    table = model.table()
    return [table, len(model.done), tuple(model.done), len(model.answers), len(table), [name for name, _ in table],
            [rule for _, rule in table], [model.table(version) for version in range(len(model.done) + 1)]]


def behind(*edits):
    """A board behind edits."""
    board = Board()
    for word, *args in edits:
        getattr(board, word)(*args)
    return board


class BoardCase(Case):

    def assertUnchanged(self, board, wanted, call, *args):
        """The call raises this error, and nothing of the board is changed."""
        before = state(board)
        self.assertRaisesExact(wanted, call, *args)
        self.assertExact(state(board), before)


class Names(BoardCase):

    def test_names(self):
        for name in RIGHT_NAMES:
            board = Board()
            self.assertExact([board.keep(name, 5), board[name], name in board, list(board)], [1, 5, True, [name]])
        for name in WRONG_NAMES + [value for value in ANY_VALUES if not is_plain_name(value)]:
            board = behind(("keep", "a", ALARM), ("keep", "s", ONE))
            self.assertUnchanged(board, Unfit(), board.keep, name, 5)
            self.assertUnchanged(board, Unfit(), board.pack, "a", name)
            self.assertUnchanged(board, Unfit(), board.unpack, "s", name)
            # No name is no name that is kept.
            self.assertExact(name in board, False)
            for call in (board.drop, board.__getitem__, lambda value: board.pack(value, "x"), lambda value: board.tells(value, ()),
                         lambda value: board.deed(value, "put", ((), 5)), lambda value: board.unpack(value, "x"),
                         lambda value: board.same(value, "a"), lambda value: board.same("a", value)):
                self.assertUnchanged(board, NoName(name), call, name)

    def test_names_of_8_and_9_letters(self):
        board = Board()
        self.assertExact(board.keep("abcdefgh", 5), 1)
        self.assertUnchanged(board, Unfit(), board.keep, "abcdefghi", 5)

    def test_in_order(self):
        board = Board()
        for name in ("b", "ab", "z", "a", "ba", "aa"):
            board.keep(name, len(board))
        self.assertExact(list(board), ["a", "aa", "ab", "b", "ba", "z"])
        self.assertExact(board.table, (("a", 3), ("aa", 5), ("ab", 1), ("b", 0), ("ba", 4), ("z", 2)))
        board.keep("aa", 77)
        board.drop("b")
        self.assertExact(board.table, (("a", 3), ("aa", 77), ("ab", 1), ("ba", 4), ("z", 2)))

    def test_8_names_and_a_ninth_one(self):
        board = Board()
        names = ["n" + letter for letter in "abcdefgh"]
        for name in names[:7]:
            board.keep(name, ALARM)
        board.pack("na", "nh")
        self.assertExact(list(board), names)
        self.assertUnchanged(board, TooMany(8), board.keep, "ni", 5)
        self.assertUnchanged(board, TooMany(8), board.pack, "na", "ni")
        self.assertUnchanged(board, TooMany(8), board.unpack, "nh", "ni")
        # Names that are kept can have other rules.
        self.assertExact([board.keep("na", ALARM), board.pack("na", "nb"), board.unpack("nh", "nc")], [9, 10, 11])
        # What else is wrong goes first.
        self.assertUnchanged(board, Unfit(), board.keep, "None", 5)
        self.assertUnchanged(board, BadTree(((), "form")), board.keep, "ni", 100)
        self.assertUnchanged(board, BadScale("bound"), board.keep, "ni", (((0, 1),), 2))
        board.keep("nd", APART)
        with self.assertRaises(NoNest):
            board.pack("nd", "ni")
        board.keep("ne", NO_TREE)
        with self.assertRaises(NoTree):
            board.unpack("ne", "ni")
        self.assertExact([board.drop("nd"), board.keep("ni", 5), len(board)], [14, 15, 8])

    def test_no_name_that_is_kept(self):
        board = behind(("keep", "a", ALARM))
        for name in RIGHT_NAMES[1:]:
            self.assertExact(name in board, False)
            for call in (board.drop, board.__getitem__, lambda value: board.pack(value, "None"),
                         lambda value: board.unpack(value, None), lambda value: board.tells(value, None),
                         lambda value: board.deed(value, None, None), lambda value: board.same(value, None)):
                self.assertUnchanged(board, NoName(name), call, name)
            self.assertUnchanged(board, NoName(name), board.same, "a", name)


class Keep(BoardCase):

    def test_rules(self):
        board = Board()
        for place, rule in enumerate(SMALL_TREES[::60] + large_trees()[:6] + [STAIRS, WELL, 0, 99] + SMALL_SCALES[::30]):
            if place == 40:
                break
            self.assertExact(board.keep("a", rule), place + 1)
            self.assertExact(board["a"], rule)
            self.assertExact(board.log[-1], ("keep", "a", rule))
        self.assertGreater(board.version, 30)

    def test_wrong_rules(self):
        board = behind(("keep", "a", ALARM))
        wrong = 0
        for value in ANY_VALUES:
            if type(value) is tuple and len(value) == 2 and type(value[0]) is tuple:
                error = BadScale(scale_error(value))
                wrong += 1
            else:
                error = BadTree(tree_error(value))
            if error.error is None:
                self.assertExact(Board().keep("a", value), 1)
                continue
            for name in ("a", "b"):
                self.assertUnchanged(board, error, board.keep, name, value)
            self.assertUnchanged(board, Unfit(), board.keep, "none", value)
            self.assertLeavesAsItIs(board.keep, "a", value)
        self.assertGreater(wrong, 10)

    def test_what_is_told_of_wrong_rules(self):
        for value, error in (
                (((0, 1), 1), BadScale(("row", 0))), (((), 1), BadScale("form")), (((0,), (1,)), BadScale("form")),
                ((((0, 1),), True), BadScale("form")), ((((0, 1),), 2), BadScale("bound")), ((((0, 1),), 1, 1), BadTree(((), "form"))),
                ([((0, 1),), 1], BadTree(((), "form"))), ((3, (0, 1)), BadTree(((), "bound"))), ((True, (0, 1)), BadTree(((), "form"))),
                (([0], 1), BadTree(((), "form"))), ((1, ((1, (2,)), 2)), BadTree(((1,), "twice"))),
                ((1, ((1, tuple(range(13))), (1, tuple(range(13, 26))))), BadTree("many")), (True, BadTree(((), "form"))),
                ("2[0,1]", BadTree(((), "form"))), (None, BadTree(((), "form")))):
            self.assertRaisesExact(error, Board().keep, "a", value)


class Deeds(BoardCase):

    def test_each_deed(self):
        tree = (2, (0, (1, (3, 4)), 7))
        for word, items in (("put", ((1,), 5)), ("taken_out", (3,)), ("bounded", ((1,), 2)), ("dissolved", ((1,),)),
                            ("as_one", ((1,), 9)), ("exchanged", (0, 4))):
            board = behind(("keep", "a", tree))
            self.assertExact(board.deed("a", word, items), 2)
            self.assertExact(board["a"], getattr(deeds, word)(tree, *items))
            self.assertExact(board.log[1], ("deed", "a", word, items))

    def test_wrong_deeds(self):
        board = behind(("keep", "a", ALARM), ("keep", "s", ONE))
        for value in ANY_VALUES + ["puts", "PUT", "put ", "told", "keep", "__init__", "buttons_of"]:
            self.assertUnchanged(board, Unfit(), board.deed, "a", value, ((), 5))
            self.assertUnchanged(board, Unfit(), board.deed, "s", value, value)
            if not (type(value) is tuple and len(value) == 2):
                self.assertUnchanged(board, Unfit(), board.deed, "a", "put", value)
            if not (type(value) is tuple and len(value) == 1):
                self.assertUnchanged(board, Unfit(), board.deed, "a", "dissolved", value)
        for word, many in DEEDS.items():
            for number in range(4):
                if number != many:
                    self.assertUnchanged(board, Unfit(), board.deed, "a", word, ((),) * number)
            self.assertUnchanged(board, Unfit(), board.deed, "a", word, [()] * many)
            # A scale is no tree.
            self.assertUnchanged(board, Unfit(), board.deed, "s", word, ((),) * many)

    def test_errors_of_deeds(self):
        board = behind(("keep", "a", ALARM), ("keep", "half", HALF))
        for value in ANY_VALUES:
            for word, items in (("put", (value, 5)), ("put", ((), value)), ("taken_out", (value,)), ("bounded", ((), value)),
                                ("bounded", (value, 1)), ("dissolved", (value,)), ("as_one", (value, 50)),
                                ("as_one", ((0,), value)), ("exchanged", (value, 0)), ("exchanged", (0, value))):
                wanted = outcome(getattr(deeds, word), ALARM, *items)
                if wanted[0] == "raised":
                    self.assertExact(outcome(board.deed, "a", word, items), wanted)
        self.assertExact(board.version, 2)
        self.assertUnchanged(board, TooMany(24), board.deed, "half", "put", ((), 50))
        self.assertExact(board.deed("half", "taken_out", (3,)), 3)
        self.assertExact(board.deed("half", "put", ((), 50)), 4)


class PackAndUnpack(BoardCase):

    def test_nests(self):
        for tree in (5, ALARM, HALF, STAIRS, WELL, NEST_301):
            board = behind(("keep", "a", tree))
            self.assertExact([board.pack("a", "b"), board["b"], board["a"]], [2, scale_of(tree), tree])
            self.assertExact([board.pack("a", "a"), board["a"]], [3, scale_of(tree)])

    def test_no_nests(self):
        board = behind(("keep", "a", APART))
        for other in ("b", "a"):
            before = state(board)
            with self.assertRaises(NoNest) as caught:
                board.pack("a", other)
            self.assertExact(swap_holds(APART, caught.exception.paper), True)
            self.assertExact(state(board), before)
        self.assertUnchanged(board, Unfit(), board.pack, "a", "none")

    def test_scales(self):
        for scale in [ONE] + SMALL_SCALES[::40]:
            board = behind(("keep", "a", scale))
            wanted = outcome(nest_of, scale)
            self.assertExact(outcome(board.unpack, "a", "b")[0], wanted[0])
            if wanted[0] == "returned":
                self.assertExact([board["b"], board["a"]], [wanted[1], scale])
                self.assertExact([board.unpack("a", "a"), board["a"]], [3, wanted[1]])

    def test_no_trees(self):
        board = behind(("keep", "a", NO_TREE), ("keep", "b", ONES_12), ("keep", "c", ONES_13))
        before = state(board)
        with self.assertRaises(NoTree) as caught:
            board.unpack("a", "d")
        self.assertExact(tree_paper_holds(scale_lots(NO_TREE), caught.exception.paper), True)
        self.assertExact(state(board), before)
        self.assertUnchanged(board, TooMany(300), board.unpack, "b", "d")
        self.assertUnchanged(board, TooMany(12), board.unpack, "c", "d")
        for name in ("a", "b", "c"):
            self.assertUnchanged(board, Unfit(), board.unpack, name, "D")

    def test_wrong_kinds(self):
        board = behind(("keep", "tree", APART), ("keep", "scale", ONES_13))
        self.assertUnchanged(board, Unfit(), board.pack, "scale", "x")
        self.assertUnchanged(board, Unfit(), board.unpack, "tree", "x")


class Batch(BoardCase):

    EDITS = (("keep", "a", ALARM), ("pack", "a", "b"), ("unpack", "b", "c"), ("deed", "c", "put", ((), 9)), ("drop", "a"))

    def test_as_one_edit(self):
        board = behind(("keep", "x", 5))
        self.assertExact(board.batch(self.EDITS), 2)
        self.assertExact(board.log, (("keep", "x", 5), ("batch", self.EDITS)))
        self.assertExact(board.table, (("b", ONE), ("c", (3, (0, 1, (1, (2, 3)), 9))), ("x", 5)))
        self.assertExact([board.undo(), board.table, board.redo(), len(board)], [1, (("x", 5),), 2, 3])

    def test_0_12_and_13(self):
        edit = ("keep", "a", 5)
        board = Board()
        self.assertExact([board.batch(()), board.version, board.table], [1, 1, ()])
        self.assertExact(board.batch((edit,) * 12), 2)
        self.assertUnchanged(board, BadBatch(), board.batch, (edit,) * 13)
        self.assertUnchanged(board, BadBatch(), board.batch, (("drop", "nobody"),) * 13)
        self.assertUnchanged(board, Rejected(0), board.batch, (("drop", "nobody"),) * 12)

    def test_rejected(self):
        board = behind(("keep", "x", 5))
        for place in range(12):
            edits = (("keep", "x", ALARM),) * place + (("drop", "nobody"),) + (("drop", "none"),) * (11 - place)
            self.assertUnchanged(board, Rejected(place), board.batch, edits)
        for wrong in (("keep", "none", 5), ("keep", "a", 100), ("keep", "a", (((0, 1),), 2)), ("drop", 7), ("deed", "x", "put", ()),
                      ("deed", "x", "put", ((), 6)), ("pack", "x", "X"), ("unpack", "x", "y"), ("keep", None, None)):
            self.assertUnchanged(board, Rejected(1), board.batch, (("drop", "x"), ("drop", "x")))
            self.assertUnchanged(board, Rejected(1), board.batch, (("keep", "x", 6), wrong))
        self.assertUnchanged(board, Rejected(0), board.batch, (("pack", "b", "c"),) + self.EDITS)
        # With x seven further names can be kept.
        names = ["a" + letter for letter in "bcdefghij"]
        self.assertUnchanged(board, Rejected(8), board.batch, (("keep", "x", 1),) + tuple([("keep", name, 5) for name in names]))

    def test_what_is_no_batch(self):
        board = behind(("keep", "x", 5))
        right = ("keep", "y", 6)
        for value in ANY_VALUES:
            if value != () or type(value) is not tuple:
                self.assertUnchanged(board, BadBatch(), board.batch, value)
            self.assertUnchanged(board, BadBatch(), board.batch, (value,))
            self.assertUnchanged(board, BadBatch(), board.batch, (right, ("drop", "nobody"), value))
            self.assertUnchanged(board, BadBatch(), board.batch, ((value, "x"),))
            self.assertUnchanged(board, Rejected(0), board.batch, (("drop", value),))
        for wrong in (("keep", "y"), ("keep",), ("keep", "y", 6, 7), ("drop",), ("drop", "x", "x"), ("deed", "x", "put"),
                      ("pack", "x"), ("unpack", "x", "y", "z"), ("batch", ()), ("undo",), ("redo",), ("tells", "x", ()),
                      ["drop", "x"], "drop", ("Drop", "x"), (None, "x"), (("drop",), "x"), ("keep" + "\n", "y", 6)):
            self.assertUnchanged(board, BadBatch(), board.batch, (right, wrong))
            self.assertUnchanged(board, BadBatch(), board.batch, [right])


class FortyEdits(BoardCase):

    def full(self):
        board = Board()
        for number in range(40):
            self.assertExact(board.keep("a", number), number + 1)
        return board

    def test_one_more(self):
        board = self.full()
        board.undo()
        board.batch((("keep", "s", ONE), ("keep", "t", ALARM)))
        for call, args in ((board.keep, ("a", 5)), (board.drop, ("a",)), (board.deed, ("t", "put", ((), 9))), (board.pack, ("t", "u")),
                           (board.unpack, ("s", "u")), (board.batch, ((),)), (board.batch, ((("drop", "a"),),))):
            self.assertUnchanged(board, TooManyEdits(), call, *args)

    def test_what_else_is_wrong_goes_first(self):
        board = self.full()
        board.undo()
        board.batch((("keep", "s", NO_TREE), ("keep", "t", APART)))
        for error, call, args in (
                (Unfit(), board.keep, ("none", 5)), (BadTree(((), "form")), board.keep, ("a", None)),
                (BadScale("form"), board.keep, ("a", ((), 1))), (NoName("b"), board.drop, ("b",)),
                (NoName("b"), board.deed, ("b", "put", ())), (Unfit(), board.deed, ("a", "put", ())),
                (Unfit(), board.pack, ("s", "x")), (Unfit(), board.unpack, ("t", "x")), (BadBatch(), board.batch, (None,)),
                (BadBatch(), board.batch, ((("drop", "a"),) * 13,)), (Rejected(1), board.batch, ((("drop", "a"),) * 2,))):
            self.assertUnchanged(board, error, call, *args)
        with self.assertRaises(NoNest):
            board.pack("t", "x")
        with self.assertRaises(NoTree):
            board.unpack("s", "x")

    def test_undo_and_redo(self):
        board = self.full()
        self.assertExact([board.undo(), board.undo(), board.redo(), board.redo()], [39, 38, 39, 40])
        self.assertUnchanged(board, NothingToRedo(), board.redo)
        self.assertExact([board.undo(), board.drop("a")], [39, 40])
        self.assertUnchanged(board, TooManyEdits(), board.keep, "a", 1)
        for version in range(39, -1, -1):
            self.assertExact(board.undo(), version)
        self.assertUnchanged(board, NothingToUndo(), board.undo)
        for version in range(1, 41):
            self.assertExact(board.redo(), version)

    def test_batches_count_once(self):
        board = Board()
        for number in range(40):
            board.batch(tuple([("keep", "a", button) for button in range(12)]))
        self.assertExact(board.version, 40)
        self.assertUnchanged(board, TooManyEdits(), board.batch, ())


class UndoAndRedo(BoardCase):

    EDITS = [("keep", "a", ALARM), ("pack", "a", "b"), ("unpack", "b", "c"), ("deed", "c", "taken_out", (1,)), ("drop", "a"),
             ("batch", (("drop", "b"), ("keep", "a", 7))), ("keep", "a", 7), ("batch", ())]

    def test_behind_each_edit(self):
        board, tables = Board(), [()]
        for number, (word, *args) in enumerate(self.EDITS):
            self.assertExact(getattr(board, word)(*args), number + 1)
            tables.append(board.table)
            # All is taken back and done again.
            for version in range(number, -1, -1):
                self.assertExact([board.undo(), board.table, board.log], [version, tables[version], tuple(self.EDITS[:version])])
            self.assertUnchanged(board, NothingToUndo(), board.undo)
            for version in range(1, number + 2):
                self.assertExact([board.redo(), board.table, board.log], [version, tables[version], tuple(self.EDITS[:version])])
            self.assertUnchanged(board, NothingToRedo(), board.redo)
            self.assertExact([board.at(version) for version in range(number + 2)], tables)

    def test_an_edit_done_anew_forgets(self):
        board = behind(*self.EDITS[:4])
        board.undo()
        board.undo()
        board.keep("z", 1)
        self.assertUnchanged(board, NothingToRedo(), board.redo)
        self.assertExact(board.log, tuple(self.EDITS[:2]) + (("keep", "z", 1),))
        self.assertExact([board.undo(), board.redo(), board.undo(), board.undo()], [2, 3, 2, 1])
        # The same edit done anew forgets, too.
        board.pack("a", "b")
        self.assertUnchanged(board, NothingToRedo(), board.redo)

    def test_refused_edits_forget_nothing(self):
        board = behind(*self.EDITS[:3])
        board.undo()
        for call, args in ((board.keep, ("none", 5)), (board.drop, ("x",)), (board.batch, ((("drop", "x"),),)), (board.pack, ("b", "x")),
                           (board.unpack, ("a", "x")), (board.deed, ("a", "x", ())), (board.tells, ("x", ())), (board.at, (9,))):
            with self.assertRaises(TripError):
                call(*args)
        self.assertExact([board.redo(), board["c"]], [3, nest_of(ONE)])

    def test_new_board(self):
        board = Board()
        self.assertExact(state(board), [(), 0, (), 0, 0, [], [], [()]])
        self.assertUnchanged(board, NothingToUndo(), board.undo)
        self.assertUnchanged(board, NothingToRedo(), board.redo)

    def test_at(self):
        board = behind(*self.EDITS)
        board.undo()
        for value in ANY_VALUES + [8, 9, -1, True, False, "1", (1,)]:
            if type(value) is int and 0 <= value <= 7:
                self.assertExact(board.at(value), behind(*self.EDITS[:value]).table)
            else:
                self.assertUnchanged(board, NoVersion(value), board.at, value)


class Copies(BoardCase):

    def test_same_state(self):
        board = behind(*UndoAndRedo.EDITS[:4])
        board.same("a", "b")
        board.undo()
        other = board.copy()
        self.assertIsInstance(other, Board)
        self.assertIsNot(other, board)
        self.assertExact(state(other), state(board))
        self.assertTrue(other == board)
        # What was taken back can be done again, and answers are kept.
        self.assertExact([other.redo(), other.version, board.version], [4, 4, 3])
        self.assertExact([other.same("a", "b"), other.made], [True, 1])

    def test_neither_changes_with_the_other(self):
        board = behind(*UndoAndRedo.EDITS[:3])
        other = board.copy()
        before = state(board)
        other.keep("x", 5)
        other.same("a", "x")
        self.assertExact(state(board), before)
        after = state(other)
        board.undo()
        board.undo()
        board.keep("y", 6)
        board.same("a", "a")
        board.same("a", "y")
        self.assertExact(state(other), after)
        self.assertExact([other.made, board.made], [1, 2])
        for _ in range(4):
            other.undo()
        self.assertExact([len(other), len(board), other.redo()], [0, 2, 1])

    def test_copies_of_copies(self):
        rng = random.Random(81)
        boards = [Board()]
        models = [Model()]
        for step in range(120):
            place = rng.randrange(len(boards))
            if rng.random() < 0.2 and len(boards) < 6:
                boards.append(boards[place].copy())
                models.append(models[place].copy())
                continue
            word, *args = rng.choice(UndoAndRedo.EDITS + [("undo",), ("redo",), ("same", "a", "b"), ("same", "a", "a")])
            model = models[place]
            call = getattr(model, word) if word in ("undo", "redo", "same") else lambda *rest: model.edit(word, *rest)
            self.assertExact(outcome(getattr(boards[place], word), *args), outcome(call, *args))
            for board, model in zip(boards, models):
                self.assertExact([board.table, board.version, board.made], [model.table(), len(model.done), len(model.answers)])

    def test_copy_of_a_full_board(self):
        board = FortyEdits().full()
        other = board.copy()
        self.assertUnchanged(other, TooManyEdits(), other.keep, "a", 5)
        self.assertExact(other.undo(), 39)
        self.assertExact(board.version, 40)


class Own(Exception):
    """An error that is none of the package."""


class OwnTripError(TripError):
    """An error under TripError that the package does not know."""


class Attempts(BoardCase):

    def board(self):
        board = behind(*UndoAndRedo.EDITS[:5])
        board.undo()
        board.undo()
        return board

    def test_result(self):
        board = self.board()
        seen = []
        for value in (None, True, 7, [1], board, ()):
            self.assertIs(board.attempt(lambda handed: seen.append(handed) or value), value)
        self.assertTrue(all(handed is board for handed in seen))
        self.assertExact(board.attempt(lambda handed: handed.keep("x", 5)), 4)
        self.assertExact([board.version, "x" in board], [4, True])

    def work_of_all_kinds(self, board):
        board.undo()
        board.undo()
        board.keep("q", 5)
        board.batch((("keep", "r", 6), ("drop", "a")))
        board.undo()
        board.redo()

    def test_errors_of_the_package(self):
        for error in (NoName(3), Unfit(), TooMany(8), TripError(), OwnTripError(), Rejected(1)):
            board = self.board()
            before, model = state(board), board.copy()

            def work(handed):
                self.work_of_all_kinds(handed)
                raise error

            with self.assertRaises(type(error)) as caught:
                board.attempt(work)
            self.assertIs(caught.exception, error)
            self.assertExact(state(board), before)
            # What was taken back can still be done again.
            self.assertExact([board.redo(), board.redo(), state(board)], [4, 5, state(behind(*UndoAndRedo.EDITS[:5]))])
            self.assertUnchanged(board, NothingToRedo(), board.redo)
            self.assertExact(model.version, 3)

    def test_an_error_of_the_board_itself(self):
        board = self.board()
        before = state(board)

        def work(handed):
            handed.keep("x", 5)
            handed.drop("nobody")

        self.assertRaisesExact(NoName("nobody"), board.attempt, work)
        self.assertExact(state(board), before)
        self.assertExact(board.redo(), 4)

    def test_other_errors(self):
        for error in (Own(), ValueError("x"), KeyError(1), ZeroDivisionError()):
            board, other = self.board(), self.board()

            def work(handed):
                self.work_of_all_kinds(handed)
                raise error

            with self.assertRaises(type(error)) as caught:
                board.attempt(work)
            self.assertIs(caught.exception, error)
            self.work_of_all_kinds(other)
            self.assertExact(state(board), state(other))
            self.assertUnchanged(board, NothingToRedo(), board.redo)

    def test_answers_stay_kept(self):
        board = self.board()

        def work(handed):
            handed.same("a", "b")
            handed.keep("x", 5)
            handed.same("x", "a")
            raise Unfit()

        self.assertRaisesExact(Unfit(), board.attempt, work)
        self.assertExact([board.made, board.version, "x" in board], [2, 3, False])
        self.assertExact([board.same("a", "b"), board.made], [True, 2])

    def test_within_one_another(self):
        board = self.board()

        def inner(handed):
            handed.keep("y", 6)
            raise NoName("y")

        def outer(handed):
            handed.keep("x", 5)
            between = state(handed)
            self.assertRaisesExact(NoName("y"), handed.attempt, inner)
            self.assertExact(state(handed), between)
            handed.keep("z", 7)
            return handed.attempt(lambda again: again.undo())

        self.assertExact(board.attempt(outer), 4)
        self.assertExact(["x" in board, "y" in board, "z" in board, board.redo(), board["z"]], [True, False, False, 5, 7])

        def through(handed):
            handed.keep("w", 8)
            handed.attempt(inner)

        before = state(board)
        self.assertRaisesExact(NoName("y"), board.attempt, through)
        self.assertExact(state(board), before)

        def other_inner(handed):
            handed.keep("v", 9)
            raise Own()

        def around(handed):
            try:
                handed.attempt(other_inner)
            except Own:
                return "v" in handed

        self.assertExact([board.attempt(around), "v" in board], [True, True])

    def test_an_error_behind_an_inner_attempt(self):
        board = self.board()
        before = state(board)

        def work(handed):
            handed.attempt(lambda again: again.keep("x", 5))
            raise Unfit()

        self.assertRaisesExact(Unfit(), board.attempt, work)
        self.assertExact(state(board), before)

    def test_refused_and_full(self):
        board = FortyEdits().full()

        def work(handed):
            for _ in range(40):
                handed.undo()
            handed.keep("b", 5)
            handed.undo()
            handed.undo()

        self.assertUnchanged(board, NothingToUndo(), board.attempt, work)
        self.assertExact(board.version, 40)


class Tells(BoardCase):

    def test_rules(self):
        for rule in SMALL_TREES[::30] + SMALL_SCALES[::25] + [HALF, STAIRS]:
            board = behind(("keep", "a", rule))
            buttons = scale_buttons(rule) if is_plain_scale(rule) else leaves(rule)
            for lot in lots_of(buttons[:5]) + [(), (98, 99), tuple(range(100))]:
                wanted = plain_scale_goes(rule, lot) if is_plain_scale(rule) else plain_goes(rule, lot)
                self.assertExact(board.tells("a", lot), wanted)
        self.assertExact(board.version, 1)

    def test_what_is_no_lot(self):
        board = behind(("keep", "a", ALARM), ("keep", "s", ONE))
        for value in ANY_VALUES:
            for name in ("a", "s"):
                if lot_error(value) is None:
                    rule = board[name]
                    self.assertExact(board.tells(name, value), scale_goes(rule, value) if name == "s" else goes(rule, value))
                else:
                    self.assertUnchanged(board, Unfit(), board.tells, name, value)
            self.assertUnchanged(board, NoName("x"), board.tells, "x", value)
            self.assertLeavesAsItIs(board.tells, "a", value)


class Same(BoardCase):

    def check_pair(self, one, other):
        """Whether two rules do the same, held against all lots where these are few."""
        board = behind(("keep", "a", one), ("keep", "b", other))
        wanted = plain_same(one, other)
        buttons = set()
        for rule in (one, other):
            buttons |= set(scale_buttons(rule) if is_plain_scale(rule) else leaves(rule))
        if len(buttons) <= 8:
            model = Model()
            model.done = list(board.log)
            states = [model.tells("a", lot) == model.tells("b", lot) for lot in lots_of(buttons)]
            self.assertExact(wanted, all(states), (one, other))
        self.assertExact([board.same("a", "b"), board.made], [wanted, 1])
        self.assertExact([board.same("a", "b"), board.made, board.same("b", "a")], [wanted, 1, wanted])
        self.assertExact(board.made, 1 if one == other else 2)
        return wanted

    def test_trees_and_scales(self):
        rng = random.Random(82)
        rules = SMALL_TREES[::90] + SMALL_SCALES[::50] + [ALARM, told(ALARM), ONE, NO_TREE, APART, 5, (((5, 3),), 2)]
        rules += [scale_of(tree) for tree in (ALARM, SMALL_TREES[5])] + [shuffled(rng, ALARM)]
        answers = [self.check_pair(one, other) for one in rules for other in rng.sample(rules, 12)]
        self.assertGreater(answers.count(False), 100)

    def test_nests_and_their_scales(self):
        rng = random.Random(84)
        for nest in [tree for tree in SMALL_TREES if is_nest(tree)][::25]:
            rows, bound = scale_of(nest)
            heavier = (tuple([(button, 3 * weight) for button, weight in rows]), 3 * bound)
            group = [nest, told(nest), shuffled(rng, nest), (rows, bound), heavier]
            self.assertTrue(all([self.check_pair(one, other) for one in group for other in group]))

    def test_great_trees(self):
        rng = random.Random(83)
        for tree in large_trees() + [STAIRS, WELL]:
            other = shuffled(rng, told(tree))
            board = behind(("keep", "a", tree), ("keep", "b", told(tree) if tree_error(other) else other),
                           ("keep", "c", deeds.exchanged(tree, leaves(tree)[0], leaves(tree)[-1])), ("keep", "d", 5))
            self.assertExact([board.same("a", "b"), board.same("a", "d"), board.same("d", "a")], [True, False, False])
            self.assertExact(board.same("a", "c"), alike(tree, board["c"]))

    def test_too_many(self):
        # Also where the answer could be told without counting: of one rule with itself, or of 12 and other buttons.
        nest = (6, tuple(range(13)))
        board = behind(("keep", "a", ONES_13), ("keep", "b", ONES_12), ("keep", "c", nest), ("keep", "d", 5),
                       ("keep", "e", (((50, 1),), 1)), ("keep", "f", (6, tuple(range(12)))), ("keep", "g", HALF))
        for name, other, limit in (("a", "a", 12), ("a", "b", 12), ("b", "a", 12), ("a", "c", 12), ("c", "a", 12), ("a", "d", 12),
                                   ("d", "a", 12), ("b", "e", 12), ("e", "b", 12), ("b", "f", 300), ("f", "b", 300), ("b", "d", 300),
                                   ("g", "b", 300), ("g", "a", 12)):
            self.assertUnchanged(board, TooMany(limit), board.same, name, other)
        self.assertExact([board.made, board.same("b", "b"), board.same("c", "c"), board.same("c", "f"), board.made],
                         [0, True, True, False, 3])

    def test_no_tree_of_the_scale(self):
        board = behind(("keep", "a", NO_TREE), ("keep", "b", ALARM), ("keep", "c", APART))
        self.assertExact([board.same("a", "b"), board.same("c", "a"), board.same("a", "a"), board.made], [False, False, True, 3])

    def test_first_error(self):
        board = behind(("keep", "a", ONES_13))
        self.assertUnchanged(board, NoName("x"), board.same, "x", "y")
        self.assertUnchanged(board, NoName("y"), board.same, "a", "y")
        self.assertUnchanged(board, NoName("x"), board.same, "x", "a")
        for value in ANY_VALUES:
            if value != "a":
                self.assertUnchanged(board, NoName(value), board.same, value, None)
                self.assertUnchanged(board, NoName(value), board.same, "a", value)

    def test_made(self):
        board = behind(("keep", "a", ALARM), ("keep", "b", told(ALARM)), ("keep", "c", ALARM))
        self.assertExact([board.same("a", "b"), board.made], [True, 1])
        # Other names with the same rules make nothing; the other way about, and other rules do.
        self.assertExact([board.same("c", "b"), board.made, board.same("b", "c"), board.made], [True, 1, True, 2])
        self.assertExact([board.same("a", "c"), board.made, board.same("a", "a"), board.made], [True, 3, True, 3])
        # An alike tree that is written otherwise is another rule.
        board.deed("a", "exchanged", (2, 3))
        self.assertExact([board.same("a", "b"), board.made], [True, 4])
        board.undo()
        self.assertExact([board.same("a", "b"), board.made], [True, 4])
        board.drop("a")
        self.assertExact(board.made, 4)
        board.keep("a", 5)
        self.assertExact([board.same("a", "b"), board.made], [False, 5])

    def test_equal_texts_do_not_meet(self):
        # The button 1 is not the tree of it alone; rules with the same figures are told apart.
        board = behind(("keep", "a", 1), ("keep", "b", (1, (1,))), ("keep", "c", 11), ("keep", "d", (((1, 1),), 1)))
        pairs = [(one, other) for one in "abcd" for other in "abcd"]
        for number, (one, other) in enumerate(pairs):
            self.assertExact([board.same(one, other), board.made], [(one == "c") == (other == "c"), number + 1])


class Equal(BoardCase):

    def test_equal_tables(self):
        one, other = behind(("keep", "a", 5), ("keep", "b", 6)), behind(("keep", "b", 6), ("keep", "c", 7), ("drop", "c"), ("keep", "a", 5))
        self.assertIs(one == other, True)
        self.assertIs(one != other, False)
        other.keep("a", (1, (5,)))
        self.assertIs(one == other, False)
        self.assertIs(one != other, True)
        other.undo()
        self.assertIs(one == other, True)
        self.assertIs(Board() == Board(), True)
        self.assertIs(Board() != Board(), False)
        self.assertIs(one == Board(), False)

    def test_nothing_else(self):
        for board in (Board(), behind(("keep", "a", 5))):
            for value in ANY_VALUES + [board.table, dict(board.table), state(board), Board, object()]:
                self.assertIs(board == value, False)
                self.assertIs(board != value, True)
                self.assertIs(value == board, False)


class Whole(BoardCase):
    """Boards beside a board by the words of the document, edit by edit."""

    def names(self, rng):
        return rng.choice(["a", "b", "c", "d", "e", "f", "g", "h", "i", "a", "b", "c"] + ([rng.choice(WRONG_NAMES)] if rng.random() < 0.2
                                                                                  else []))

    def rule(self, rng):
        chance = rng.random()
        if chance < 0.5:
            return rng.choice(SMALL_TREES)
        if chance < 0.85:
            return rng.choice(SMALL_SCALES)
        return rng.choice([HALF, STAIRS, ONES_13, ONES_12, NO_TREE, NO_TREE, APART, ALARM, rng.choice(ANY_VALUES)])

    def items(self, rng, word):
        way = rng.choice([(), (0,), (1,), (1, 0), (2,), (0, 0), None])
        button = rng.choice([0, 1, 2, 3, 4, 5, 8, 9, 50, 99, 100, True])
        return {"put": (way, button), "taken_out": (button,), "bounded": (way, rng.choice([1, 1, 2, 3, 0, True])),
                "dissolved": (way,), "as_one": (way, button), "exchanged": (button, rng.choice([0, 1, 3, 5]))}.get(word, ())

    def edit(self, rng, word):
        if word == "keep":
            return (word, self.names(rng), self.rule(rng))
        if word == "drop":
            return (word, self.names(rng))
        if word == "deed":
            deed = rng.choice(list(DEEDS) + ["told"])
            return (word, self.names(rng), deed, self.items(rng, deed))
        if word == "batch":
            inner = [self.edit(rng, rng.choice(["keep", "keep", "keep", "drop", "deed", "pack"])) for _ in range(rng.randint(0, 4))]
            return (word, tuple(inner))
        return (word, self.names(rng), self.names(rng))

    def test_against_the_words(self):
        raised = {}
        for seed in range(60):
            rng = random.Random(seed)
            board, model = Board(), Model()
            for _ in range(70):
                word = rng.choice(["keep"] * 6 + ["deed"] * 5 + ["pack"] * 2 + ["unpack"] * 2 + ["drop", "batch", "undo", "undo", "redo",
                                                                                              "tells", "same", "same", "at"])
                if word in PLAIN:
                    edit = self.edit(rng, word)
                    args = edit[1:]
                    wanted = outcome(model.edit, *edit)
                else:
                    args = {"undo": (), "redo": (), "tells": (self.names(rng), rng.choice([(), (0, 1), (1, 3, 5), (1, 0), None])),
                            "same": (self.names(rng), self.names(rng)), "at": (rng.randint(-1, 20),)}[word]
                    wanted = outcome(getattr(model, word), *args)
                self.assertExact(outcome(getattr(board, word), *args), wanted, (word, args))
                if wanted[0] == "raised":
                    raised[wanted[1]] = raised.get(wanted[1], 0) + 1
                self.assertExact([board.table, board.version, board.made], [model.table(), len(model.done), len(model.answers)])
            self.assertExact(state(board), plain_state(model))
        self.assertTrue({"NoName", "Unfit", "BadTree", "BadScale", "NoNest", "NoTree", "NoPart", "NoButton", "Taken", "TooMany",
                         "Rejected", "NothingToUndo", "NothingToRedo", "NoVersion"} <= set(raised), raised)

    def test_tells_and_same_as_on_a_new_board(self):
        # N9: whatever was done and taken back.
        for seed in range(30):
            rng = random.Random(seed)
            board = Board()
            for _ in range(30):
                outcome(getattr(board, rng.choice(["undo", "redo"]))) if rng.random() < 0.3 else None
                word, *args = self.edit(rng, rng.choice(["keep", "keep", "deed", "pack", "unpack", "batch", "drop"]))
                outcome(getattr(board, word), *args)
                for name in list(board)[:3]:
                    for other in list(board)[:3]:
                        outcome(board.same, name, other)
            new = Board()
            for name, rule in board.table:
                new.keep(name, rule)
            self.assertTrue(new == board)
            for name in board:
                for lot in ((), (0,), (0, 1), (1, 3, 5), (0, 2, 4, 9)):
                    self.assertExact(new.tells(name, lot), board.tells(name, lot))
                for other in board:
                    self.assertExact(outcome(new.same, name, other), outcome(board.same, name, other))

    def test_only_to_be_read(self):
        board = behind(("keep", "a", 5))
        for name, value in (("table", ()), ("version", 0), ("log", ()), ("made", 7)):
            with self.assertRaises(AttributeError):
                setattr(board, name, value)
        self.assertExact(state(board)[:4], [(("a", 5),), 1, (("keep", "a", 5),), 0])

    def test_what_was_told_stays(self):
        board = behind(("keep", "a", ALARM), ("keep", "b", 5))
        told_of = [board.table, board.log, board["a"], board.at(1)]
        before = copy.deepcopy(told_of)
        board.drop("b")
        board.deed("a", "bounded", ((), 1))
        board.undo()
        self.assertExact(told_of, before)

    def test_two_boards_do_not_meet(self):
        one, other = Board(), Board()
        one.keep("a", ALARM)
        one.same("a", "a")
        self.assertExact(state(other), [(), 0, (), 0, 0, [], [], [()]])
        other.keep("b", 5)
        self.assertExact([list(one), list(other), one.made, other.made], [["a"], ["b"], 1, 0])
        self.assertUnchanged(other, NothingToRedo(), other.redo)

    def test_by_name(self):
        board = Board()
        self.assertExact([
            board.keep(name="a", rule=ALARM), board.pack(name="a", other="b"), board.unpack(name="b", other="c"),
            board.deed(name="c", word="taken_out", items=(3,)), board.batch(edits=(("keep", "d", 5),)), board.drop(name="d"),
            board.tells(name="a", lot=(0, 1)), board.same(name="a", other="b"), len(board.at(version=1)),
            board.attempt(work=len)], [1, 2, 3, 4, 5, 6, False, True, 1, 3])

    def test_handed_in_as_it_was(self):
        board = behind(("keep", "a", ALARM), ("keep", "s", ONE))
        for value in ANY_VALUES[::3] + [BIG]:
            for call, args in ((board.keep, (value, value)), (board.drop, (value,)), (board.deed, (value, value, value)),
                               (board.deed, ("a", "put", (value, value))), (board.pack, ("a", value)), (board.unpack, ("s", value)),
                               (board.batch, (value,)), (board.batch, ((("keep", value, value),),)), (board.tells, (value, value)),
                               (board.same, (value, value)), (board.at, (value,))):
                self.assertLeavesAsItIs(call, *args)
        self.assertExact(exact(board["s"]), exact(ONE))
