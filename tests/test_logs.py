"""Logs: point N7, and what N9 says of them."""

import ast
import itertools
import random
import re

from onescale.boards import Board
from onescale.errors import BadLog, TripError
from onescale.logs import board_behind, log_text, read_log
from tests import test_boards
from tests.support import ANY_VALUES, HALF, SMALL_SCALES, SMALL_TREES, STAIRS, WELL, Case, large_trees
from tests.test_boards import ALARM, APART, DEEDS, NO_TREE, ONE, WORDS, behind, outcome, state

# Edits with all kinds of arguments that have a text, those that no board would do among them.
EDITS = [
    ("keep", "a", ALARM), ("keep", "b", ONE), ("drop", "b"), ("deed", "a", "exchanged", (0, 3)), ("pack", "a", "b"),
    ("unpack", "b", "c"), ("batch", ()), ("batch", (("drop", "b"), ("keep", "a", 7))), ("deed", "a", "taken_out", (7,)),
    ("drop", 0), ("drop", 9999999), ("drop", "a"), ("drop", "abcdefghijkl"), ("drop", "____________"), ("drop", "_"), ("drop", ()),
    ("drop", ((),)), ("drop", ("drop", "drop")), ("keep", (0, (), "x"), ((1,), (2, (3,)))), ("pack", 10, 100), ("batch", "batch"),
    ("keep", "a", STAIRS), ("keep", "a", WELL), ("batch", (("batch", ()), "drop", 0)), ("drop", "none"),
]


def within_brackets(many):
    """An edit in whose text so many brackets are open at once."""
    inner = ()
    for _ in range(many - 2):
        inner = (inner,)
    return ("drop", inner)


# A reader of its own: a line as Python would read it, held against the text that it should have.

def plain_text(item):
    if isinstance(item, tuple):
        return "(" + ",".join(plain_text(inner) for inner in item) + ")"
    return str(item)


def brackets_open(line):
    """How many brackets are open at once, at most."""
    most = now = 0
    for sign in line:
        now += (sign == "(") - (sign == ")")
        most = max(most, now)
    return most


def plain_edit(line):
    """The edit of which a line is the text, None if there is none."""
    words = re.findall("[a-z_0-9]+", line)
    if re.sub("[a-z_0-9(),]", "", line) or not 1 <= brackets_open(line) <= 30:
        return None
    if not all(re.fullmatch("[0-9]{1,7}|[a-z_]{1,12}", word) for word in words):
        return None
    literal = re.sub("[a-z_0-9]+", lambda found: found[0] if found[0].isdigit() else repr(found[0]), line)
    try:
        edit = ast.literal_eval(literal.replace(")", ",)").replace("(,)", "()"))
    except (SyntaxError, ValueError, TypeError):
        return None
    if not isinstance(edit, tuple) or not edit or WORDS.get(edit[0] if isinstance(edit[0], str) else None) != len(edit) - 1:
        return None
    return edit if plain_text(edit) == line else None


def plain_log(text):
    """What read_log does with a string, as outcome tells it."""
    edits = [plain_edit(line) for line in text.split("\n")[:-1]]
    if None in edits:
        return ("raised", "BadLog", {"place": edits.index(None)})
    return ("returned", tuple(edits))


def some_boards():
    """Boards behind all kinds of edits, some of them taken back."""
    boards = [Board(), behind(*test_boards.UndoAndRedo.EDITS), test_boards.FortyEdits().full(),
              behind(("keep", "a", STAIRS), ("keep", "b", WELL), ("keep", "c", HALF))]
    maker = test_boards.Whole()
    for seed in range(25):
        rng = random.Random(seed)
        board = Board()
        for _ in range(25):
            word, *args = maker.edit(rng, rng.choice(["keep", "keep", "keep", "deed", "deed", "pack", "unpack", "batch", "drop"]))
            outcome(getattr(board, word), *args)
            if rng.random() < 0.1:
                outcome(board.undo)
        boards.append(board)
    return boards


BOARDS = some_boards()


class Texts(Case):

    def test_texts(self):
        self.assertExact(log_text(()), "")
        for edit in EDITS:
            self.assertExact(log_text((edit,)), plain_text(edit) + "\n")
            self.assertLeavesAsItIs(log_text, (edit,))
        self.assertExact(log_text(tuple(EDITS)), "".join([plain_text(edit) + "\n" for edit in EDITS]))
        self.assertExact(log_text((("drop", 0), ("deed", "x", "put", ((1, 0), 99)), ("batch", ((),)))),
                         "(drop,0)\n(deed,x,put,((1,0),99))\n(batch,(()))\n")

    def test_back(self):
        self.assertExact(read_log(log_text(tuple(EDITS))), tuple(EDITS))
        for edit in EDITS:
            self.assertExact(read_log(log_text((edit,))), (edit,))
        for board in BOARDS:
            self.assertExact(read_log(log_text(board.log)), board.log)

    def test_rules_of_all_sizes(self):
        for rule in SMALL_TREES[::20] + SMALL_SCALES[::20] + large_trees():
            edits = (("keep", "a", rule), ("batch", (("keep", "a", rule),) * 12))
            self.assertExact(log_text(edits), "".join([plain_text(edit) + "\n" for edit in edits]))
            self.assertExact(read_log(log_text(edits)), edits)

    def test_by_name(self):
        self.assertExact([log_text(edits=(("drop", "a"),)), read_log(value="(drop,a)\n"), board_behind(edits=()).version],
                         ["(drop,a)\n", (("drop", "a"),), 0])


class Bounds(Case):

    def test_integers(self):
        for number in (0, 1, 9, 10, 99, 100, 999999, 1000000, 9999999):
            self.assertExact(read_log("(drop," + str(number) + ")\n"), (("drop", number),))
        for figures in ("10000000", "00", "01", "07", "00000001", "0000000", "-1", "+1", "-0", "1_0", "1a", "a1", "0x1",
                        "1.0", " 1", "1 ", "", "9" * 20, "1" * 5000, "0" * 5000, "1" * 19000, "_1", "1_", "\u0661",
                        "\u00b2", "1e1"):
            self.assertRaisesExact(BadLog(0), read_log, "(drop," + figures + ")\n")
            self.assertRaisesExact(BadLog(1), read_log, "(drop,1)\n(drop,(" + figures + ",))\n")

    def test_words(self):
        for word in ("a", "z", "_", "__", "abcdefghijkl", "____________", "none", "drop", "a_b"):
            self.assertExact(read_log("(drop," + word + ")\n"), (("drop", word),))
        for word in ("abcdefghijklm", "_____________", "A", "aB", "a b", " a", "a ", "a-b", "a.b", "'a'", '"a"', "a\t",
                     "\u00e9", "a" * 15000, "a:", "a=1", "[a]", "{", "%"):
            self.assertRaisesExact(BadLog(0), read_log, "(drop," + word + ")\n")

    def test_30_and_31_brackets(self):
        for many in (2, 3, 29, 30):
            edit = within_brackets(many)
            self.assertExact([brackets_open(log_text((edit,))), read_log(log_text((edit,)))], [many, (edit,)])
        for many in (31, 32, 40, 1000, 9000):
            text = "(drop," + "(" * (many - 1) + ")" * (many - 1) + ")\n"
            self.assertEqual(brackets_open(text), many)
            self.assertRaisesExact(BadLog(0), read_log, text)
            self.assertRaisesExact(BadLog(0), read_log, "(drop," + "(" * (many - 1) + "\n")
        # Side by side they are as many as one likes.
        edit = ("drop", (within_brackets(28),) * 200)
        self.assertExact(read_log(log_text((edit, edit))), (edit, edit))

    def test_30_brackets_without_a_bottom(self):
        # The 31st bracket is one too many, with things in it or not.
        for inner, right in (("0", True), ("x", True), ("()", False), ("(0)", False), ("", True)):
            text = "(drop," + "(" * 29 + inner + ")" * 29 + ")\n"
            self.assertExact(outcome(read_log, text)[0], "returned" if right else "raised", inner)
            self.assertExact(outcome(read_log, text), plain_log(text))


class Reading(Case):

    def test_wrong_lines(self):
        for line in ("", "drop", "drop,one", "(drop,one", "drop,one)", "(drop,one))", "((drop,one)", "(drop,one),",
                     "(drop,one)(drop,one)", "(drop, one)", " (drop,one)", "(drop,one) ", "(drop,,one)", "(drop,one,)",
                     "(,drop,one)", "(drop,)", "(drop)", "()", "(())", "(0,one)", "((drop),one)", "(drop,one,two)",
                     "(keep,a)", "(keep,a,1,2)", "(deed,a,put)", "(undo)", "(redo)", "(at,0)", "(Drop,one)", "(dropp,one)",
                     "(batch)", "(batch,(),())", "[drop,one]", "(drop;one)", "(drop,one)\r", "0", "(", ")", ",", "(pack,a)",
                     "(unpack,a,b,c)", "(drop,(a)", "(drop,a))", "(drop,())())", "(drop,(a)b)", "(drop,a(b))", "none"):
            self.assertRaisesExact(BadLog(0), read_log, line + "\n")
            self.assertRaisesExact(BadLog(2), read_log, "(drop,a)\n(drop,())\n" + line + "\n(drop,a)\n\n")
            # Behind the last line feed nothing is looked at.
            self.assertExact(read_log("(drop,a)\n" + line), (("drop", "a"),))
            self.assertExact(read_log(line), ())

    def test_any_value(self):
        for value in ANY_VALUES:
            if not isinstance(value, str):
                self.assertRaisesExact(BadLog(0), read_log, value)
            else:
                self.assertExact(outcome(read_log, value), plain_log(value))
                self.assertExact(outcome(read_log, "(drop,a)\n" + value), plain_log("(drop,a)\n" + value))
            self.assertLeavesAsItIs(read_log, value)
        for sign in ("(", ")", ",", "1", "a", "\n", "(drop,", "(drop,a)\n", "0,", "(0,"):
            value = sign * (19000 // len(sign))
            self.assertExact(outcome(read_log, value), plain_log(value))
            self.assertExact(outcome(read_log, value + "\n"), plain_log(value + "\n"))
            self.assertExact(outcome(read_log, "(drop," + value + ")\n"), plain_log("(drop," + value + ")\n"))

    def test_all_short_lines(self):
        # Behind the word of an edit all rows of up to five signs.
        found = 0
        for many in range(6):
            for row in itertools.product("(),0a1", repeat=many):
                text = "(drop," + "".join(row) + "\n"
                wanted = plain_log(text)
                self.assertExact(outcome(read_log, text), wanted)
                found += wanted[0] == "returned"
        self.assertGreater(found, 20)

    def test_spoilt_in_one_sign(self):
        spoilt = 0
        for text in (log_text(tuple(EDITS[:9])), log_text(tuple(test_boards.UndoAndRedo.EDITS[:3])),
                     "(deed,ab,put,((1,0),10))\n(batch,((drop,a),(batch,())))\n"):
            for place in range(len(text)):
                for sign in ("", "(", ")", ",", "0", "7", "a", "_", "\n", " ", "A", "-", text[place] * 2):
                    other = text[:place] + sign + text[place + 1:]
                    wanted = plain_log(other)
                    self.assertExact(outcome(read_log, other), wanted, other)
                    spoilt += wanted[0] == "raised"
        self.assertGreater(spoilt, 1000)


class Cut(Case):

    def test_cut_at_each_sign(self):
        # N9: a log that is cut anywhere leads to the board behind all edits whose line feed is there.
        for board in BOARDS[:8]:
            text = log_text(board.log)
            boards = [board_behind(board.log[:many]) for many in range(board.version + 1)]
            for cut in range(len(text) + 1):
                many = text[:cut].count("\n")
                found = read_log(text[:cut])
                self.assertExact(found, board.log[:many])
                if cut == 0 or text[cut - 1] == "\n" or cut % 50 == 0:
                    self.assertTrue(board_behind(found) == boards[many])
                    self.assertExact(board_behind(found).table, board.at(many))

    def test_what_stands_behind_the_last_line_feed(self):
        for rest in [value for value in ANY_VALUES if isinstance(value, str) and "\n" not in value]:
            self.assertExact(read_log(rest), ())
            self.assertExact(read_log("(drop,a)\n" + rest), (("drop", "a"),))


class Behind(Case):

    def test_boards(self):
        for board in BOARDS:
            other = board_behind(board.log)
            self.assertTrue(other == board)
            self.assertExact(state(other)[:3], state(board)[:3])
            self.assertExact(other.made, 0)
            self.assertTrue(board_behind(read_log(log_text(board.log))) == board)
            self.assertRaisesExact(BadLog(board.version), board_behind, board.log + (("drop", "none"),))

    def test_new_boards(self):
        one, other = board_behind(()), board_behind(())
        one.keep("a", 5)
        self.assertExact([len(one), len(other), other.version], [1, 0, 0])
        edits = (("keep", "a", 5),)
        one, other = board_behind(edits), board_behind(edits)
        one.undo()
        self.assertExact([len(one), len(other), one.redo()], [0, 1, 1])

    def test_the_first_edit_that_raises(self):
        head = (("keep", "a", ALARM), ("keep", "s", NO_TREE), ("keep", "apart", APART))
        for wrong in (("keep", "none", 5), ("keep", "b", 100), ("keep", "b", (((0, 1),), 2)), ("drop", "b"), ("drop", 7),
                      ("pack", "s", "b"), ("pack", "apart", "b"), ("unpack", "a", "b"), ("unpack", "s", "b"),
                      ("deed", "a", "put", ((), 0)), ("deed", "a", "x", ()), ("deed", "a", "put", ((9,), 9)),
                      ("deed", "a", "taken_out", (50,)), ("batch", 5), ("batch", (("drop", "b"),)), ("batch", []),
                      ("batch", (("batch", ()),)), ("keep", "a", [1, (0,)]), ("keep", ["a"], 5), ("deed", "a", None, {})):
            for many in range(4):
                self.assertRaisesExact(BadLog(many), board_behind, head[:many] + (wrong, ("drop", "nobody")))
            self.assertLeavesAsItIs(board_behind, head + (wrong,))

    def test_any_arguments(self):
        for value in ANY_VALUES:
            for word, many in WORDS.items():
                edit = (word,) + (value,) * many
                wanted = outcome(getattr(behind(("keep", "a", ALARM)), word), *edit[1:])
                found = outcome(board_behind, (("keep", "a", ALARM), edit))
                if wanted[0] == "returned":
                    self.assertExact(found[1].log, (("keep", "a", ALARM), edit))
                else:
                    self.assertExact(found, ("raised", "BadLog", {"place": 1}))

    def test_40_edits_and_one_more(self):
        edits = tuple([("keep", "a", number) for number in range(40)])
        self.assertExact(board_behind(edits).version, 40)
        self.assertRaisesExact(BadLog(40), board_behind, edits + (("drop", "a"),))
        self.assertRaisesExact(BadLog(40), board_behind, edits + (("drop", "b"), ("drop", "b")))

    def test_all_deeds(self):
        rng = random.Random(91)
        maker = test_boards.Whole()
        for word in list(DEEDS) * 10:
            edit = ("deed", "a", word, maker.items(rng, word))
            board = behind(("keep", "a", ALARM))
            if outcome(board.deed, *edit[1:])[0] == "returned":
                self.assertExact(board_behind(read_log(log_text(board.log))).table, board.table)

    def test_errors_are_trip_errors(self):
        for function, value in ((read_log, None), (board_behind, (("drop", "a"),))):
            with self.assertRaises(TripError):
                function(value)
