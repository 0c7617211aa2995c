"""Shells: point N8."""

import random
import re

from onescale.boards import Board
from onescale.errors import BadLog, BadText, TripError
from onescale.logs import log_text, read_log
from onescale.scaletexts import read_scale, scale_text
from onescale.shells import Shell
from onescale.triptexts import lot_text, read_lot, read_tree, tree_text
from tests import test_boards
from tests.support import ANY_VALUES, HALF, SMALL_SCALES, SMALL_TREES, STAIRS, WELL, Case, large_trees
from tests.test_boards import ALARM, APART, NO_TREE, ONE, ONES_12, ONES_13, RIGHT_NAMES, WRONG_NAMES

NAME = "(?!none(?: |$))([a-z]{1,8})"
EDIT_LINES = (("keep", NAME + " (.*)"), ("drop", NAME), ("pack", NAME + " " + NAME), ("unpack", NAME + " " + NAME), ("do", "(.*)"))


# A shell by the words of N8.

def rule_of(text):
    """The tree or the scale of a text, whichever it is."""
    try:
        return read_tree(text)
    except BadText:
        return read_scale(text)


def text_of(rule):
    return scale_text(rule) if isinstance(rule, tuple) and isinstance(rule[0], tuple) else tree_text(rule)


def edit_of(line):
    """The edit that a line tells, None if it tells none."""
    for word, pattern in EDIT_LINES:
        found = re.fullmatch(word + " " + pattern, line, re.DOTALL)
        if found and word == "do":
            edits = read_log(found[1] + "\n")
            return edits[0] if len(edits) == 1 else None
        if found:
            return (word, found[1], rule_of(found[2])) if word == "keep" else (word,) + found.groups()
    return None


def plain_answer(board, line):
    if line in ("undo", "redo"):
        return "version " + str(getattr(board, line)())
    if line == "names":
        return " ".join([name for name, _ in board.table]) or "none"
    if line == "made":
        return str(board.made)
    found = re.fullmatch("(rule|goes|same) " + NAME + "( .*)?", line, re.DOTALL)
    if found:
        word, name, rest = found.groups()
        if word == "rule" and rest is None:
            return text_of(board[name])
        if word == "goes" and rest is not None:
            lot = read_lot(rest[1:])
            return "yes" if board.tells(name, lot) else "no"
        if word == "same" and rest is not None and re.fullmatch(NAME, rest[1:]):
            return "yes" if board.same(name, rest[1:]) else "no"
        return "what"
    edit = edit_of(line)
    return "what" if edit is None else "version " + str(getattr(board, edit[0])(*edit[1:]))


def plain_say(board, line):
    """What a shell with this board answers."""
    if not isinstance(line, str):
        return "what"
    try:
        return plain_answer(board, line)
    except (BadText, BadLog):
        return "what"
    except TripError as error:
        return "error " + type(error).__name__


def shell_behind(*lines):
    shell = Shell()
    for line in lines:
        assert shell.say(line).startswith("version "), line
    return shell


class ShellCase(Case):

    def state(self, shell):
        """All that a shell tells of its board, but what was taken back."""
        names = [name for name in shell.say("names").split(" ") if name != "none"]
        return [names, [shell.say("rule " + name) for name in names], shell.say("made")]

    def assertAnswers(self, shell, *rows):
        for line, answer in rows:
            self.assertExact(shell.say(line), answer, line)

    def assertRefused(self, shell, answer, *lines):
        """Each line tells this, and nothing is changed."""
        before = self.state(shell)
        for line in lines:
            self.assertExact(shell.say(line), answer, line)
            self.assertExact(self.state(shell), before, line)


class Lines(ShellCase):

    def test_edits(self):
        self.assertAnswers(
            Shell(), ("names", "none"), ("made", "0"), ("keep b 2[0,1]", "version 1"), ("names", "b"),
            ("keep a 3: 0=2 1=1 5=0", "version 2"), ("names", "a b"), ("rule a", "3: 0=2 1=1 5=0"), ("rule b", "2[0,1]"),
            ("same a b", "yes"), ("made", "1"), ("same b a", "yes"), ("same a b", "yes"), ("made", "2"), ("pack b c", "version 3"),
            ("rule c", "2: 0=1 1=1"), ("unpack a d", "version 4"), ("rule d", "2[0,1]"), ("drop b", "version 5"), ("names", "a c d"),
            ("goes a 0 1", "yes"), ("goes a 0 5", "no"), ("goes a none", "no"), ("goes d 0 1 99", "yes"), ("undo", "version 4"),
            ("names", "a b c d"), ("redo", "version 5"), ("undo", "version 4"), ("undo", "version 3"), ("drop a", "version 4"),
            ("redo", "error NothingToRedo"), ("names", "b c"), ("keep b 7", "version 5"), ("rule b", "7"), ("goes b 7", "yes"),
            ("do (batch,((drop,b),(keep,e,(1,(8,9)))))", "version 6"), ("names", "c e"), ("do (batch,())", "version 7"),
            ("do (deed,e,put,((),7))", "version 8"), ("rule e", "1[8,9,7]"), ("made", "2"))

    def test_each_error(self):
        apart, no_tree = tree_text(APART), scale_text(NO_TREE)
        shell = shell_behind("keep a 2[0,1[3,4],7]", "keep apart " + apart, "keep s " + no_tree, "keep t 1: 0=1",
                             "keep big " + scale_text(ONES_13), "keep lots " + scale_text(ONES_12), "keep half " + tree_text(HALF))
        for answer, lines in (
                ("error NoName", ["drop x", "rule x", "goes x none", "same x a", "same a x", "same x y", "pack x a", "unpack x a",
                                  "do (drop,x)", "do (drop,none)", "do (drop,7)", "do (drop,())", "do (deed,x,put,())", "do (pack,(),a)"]),
                ("error Unfit", ["pack s x", "unpack a x", "do (keep,none,5)", "do (keep,7,5)", "do (keep,abcdefghi,5)", "do (keep,a_b,5)",
                                 "do (deed,a,told,())", "do (deed,a,bounded,((),4))", "do (deed,a,bounded,((),0))", "do (deed,s,put,((),5))",
                                 "do (deed,a,put,((),100))", "do (deed,a,put,(()))", "do (pack,a,none)", "do (unpack,t,none)"]),
                ("error BadTree", ["do (keep,x,100)", "do (keep,x,(3,(0,1)))", "do (keep,x,())", "do (keep,x,tree)"]),
                ("error BadScale", ["do (keep,x,(((0,1)),2))", "do (keep,x,((),1))", "do (keep,x,(((0,1),(0,1)),1))"]),
                ("error NoPart", ["do (deed,a,put,((0),5))", "do (deed,a,dissolved,(()))", "do (deed,a,bounded,((9),1))"]),
                ("error NoButton", ["do (deed,a,taken_out,(5))", "do (deed,a,exchanged,(0,5))"]),
                ("error Taken", ["do (deed,a,put,((),0))", "do (deed,a,as_one,((1),7))"]),
                ("error NoNest", ["pack apart x", "pack apart apart"]), ("error NoTree", ["unpack s x", "unpack s s"]),
                ("error TooMany", ["unpack big x", "unpack lots x", "same big big", "same big a", "same lots half",
                                   "do (deed,half,put,((),50))"]),
                ("error BadBatch", ["do (batch,a)", "do (batch,0)", "do (batch,((undo)))", "do (batch,((batch,())))", "do (batch,(()))",
                                    "do (batch,(" + ",".join(["(drop,a)"] * 13) + "))"]),
                ("error Rejected", ["do (batch,((drop,x)))", "do (batch,((drop,a),(drop,a)))", "do (batch,((keep,a,7),(pack,s,x)))"])):
            self.assertRefused(shell, answer, *lines)
        self.assertAnswers(shell, ("keep h 5", "version 8"), ("keep i 5", "error TooMany"), ("pack a i", "error TooMany"),
                           ("unpack t i", "error TooMany"), ("redo", "error NothingToRedo"))

    def test_nothing_to_undo(self):
        shell = Shell()
        self.assertRefused(shell, "error NothingToUndo", "undo", "undo")
        self.assertRefused(shell, "error NothingToRedo", "redo")
        self.assertAnswers(shell, ("keep a 5", "version 1"), ("undo", "version 0"), ("undo", "error NothingToUndo"), ("redo", "version 1"),
                           ("redo", "error NothingToRedo"), ("undo", "version 0"), ("keep b 6", "version 1"),
                           ("redo", "error NothingToRedo"))

    def test_40_edits_and_one_more(self):
        shell = shell_behind("keep s 1: 0=1", *["keep a " + str(number) for number in range(39)])
        self.assertRefused(shell, "error TooManyEdits", "keep a 5", "keep b 5", "drop a", "pack a b", "unpack s b",
                           "do (batch,((drop,a)))", "do (batch,())", "drop s")
        self.assertRefused(shell, "error NoName", "drop x")
        self.assertRefused(shell, "what", "drop none")
        self.assertAnswers(shell, ("undo", "version 39"), ("rule a", "37"), ("redo", "version 40"), ("undo", "version 39"),
                           ("drop a", "version 40"), ("drop s", "error TooManyEdits"))

    def test_rules_of_all_sizes(self):
        for rule in SMALL_TREES[::15] + SMALL_SCALES[::15] + large_trees() + [STAIRS, WELL, ONES_13]:
            shell, text = Shell(), text_of(rule)
            self.assertAnswers(shell, ("keep a " + text, "version 1"), ("rule a", text), ("names", "a"),
                               ("do " + log_text((("keep", "b", rule),))[:-1], "version 2"), ("rule b", text))
            for lot in ((), (0,), (0, 1, 2), tuple(range(100))):
                board = test_boards.behind(("keep", "a", rule))
                self.assertAnswers(shell, ("goes a " + lot_text(lot), "yes" if board.tells("a", lot) else "no"))

    def test_names(self):
        for name in RIGHT_NAMES + ["names", "undo", "made", "do", "rule"]:
            shell = Shell()
            self.assertAnswers(shell, ("keep " + name + " 5", "version 1"), ("names", name), ("rule " + name, "5"),
                               ("goes " + name + " 5", "yes"), ("same " + name + " " + name, "yes"), ("pack " + name + " x", "version 2"),
                               ("unpack x " + name, "version 3"), ("drop " + name, "version 4"))
        shell = shell_behind("keep a 2[0,1]", "keep s 1: 0=1")
        for name in [name for name in WRONG_NAMES if isinstance(name, str)] + ["None", "x" * 19000]:
            self.assertRefused(shell, "what", "keep " + name + " 5", "drop " + name, "pack a " + name, "pack " + name + " x",
                               "unpack s " + name, "unpack " + name + " x", "rule " + name, "goes " + name + " 5",
                               "same " + name + " a", "same a " + name)


class What(ShellCase):

    WRONG = [
        "", " ", "name", "names ", " names", "Names", "names a", "made 1", "made ", "undo 1", "undo ", "redo ", " undo", "UNDO", "undo\n",
        "keep", "keep ", "keep a", "keep a ", "keep  a 5", "keep a  5", "keep a 5 ", "keep a 5\n", "keep 5", "keep a b", "keep a none",
        "keep a 3[0,1]", "keep a 2[0,0]", "keep a 100", "keep a 05", "keep a 2[0, 1]", "keep a 2[0,1", "keep a 2[0,1]]", "keep a (2,(0,1))",
        "keep a 3: 0=1 1=1", "keep a 0: 0=1", "keep a 1: 1=1 0=1", "keep a 1:0=1", "keep a 1: 0=1 ", "keep a :", "keep a 1: ", "keep\ta 5",
        "drop", "drop ", "drop a b", "drop a ", "drop 5", "drop  a", "pack", "pack a", "pack a ", "pack a b c", "pack  a b", "pack a  b",
        "unpack a", "unpack s x y", "unpack s ", "do", "do ", "do undo", "do (undo)", "do (drop,07)", "do (drop)", "do (drop,a", "do (drop,a))",
        "do  (drop,a)", "do (drop,a) ", "do (drop,a)\n", "do (drop, a)", "do (drop,a)\n(drop,s)", "do drop a", "do (tells,a,())", "do ()", "do a",
        "do (drop,10000000)", "do (drop,abcdefghijklm)", "do (names)", "do (drop,A)", "rule", "rule ", "rule a b", "rule a ", "rule  a", "rule 5",
        "goes", "goes a", "goes a ", "goes a 1 0", "goes a 0  1", "goes a 0,1", "goes a 100", "goes a None", "goes a 00", "goes  a none",
        "goes a none ", "goes a none 0", "goes none", "goes none none", "same", "same a", "same a ", "same a a a", "same  a a", "same a  a",
        "same a 5", "tells a 0", "deed a bounded () 2", "batch ()", "at 0", "version", "log", "copy", "attempt", "table", "help", "error NoName",
        "do (drop," + "(" * 30 + ")" * 30 + ")", "drop a\ndrop s", "keep a 2[0,1]\nundo", "what", "none", "yes",
    ]

    def shell(self):
        """A shell whose last edit was taken back."""
        shell = shell_behind("keep a 2[0,1]", "keep s 1: 0=1", "drop s")
        self.assertExact(shell.say("undo"), "version 2")
        return shell

    def test_wrong_lines(self):
        shell = self.shell()
        self.assertRefused(shell, "what", *self.WRONG)
        # Nothing was done, and nothing that was taken back is forgotten.
        self.assertAnswers(shell, ("redo", "version 3"), ("names", "a"))

    def test_any_value(self):
        shell = self.shell()
        self.assertRefused(shell, "what", *ANY_VALUES)
        for value in ANY_VALUES:
            self.assertLeavesAsItIs(shell.say, value)
            if isinstance(value, str):
                for head in ("drop ", "pack a ", "do ", "rule ", "same a ", "names", "undo", "undo "):
                    self.assertExact(shell.say(head + value) if head + value not in ("names", "undo") else "what", "what", head + value)
        self.assertAnswers(shell, ("redo", "version 3"))

    def test_thousands_of_figures_and_brackets(self):
        shell = self.shell()
        for sign in "(1[,a=:) 0":
            for text in (sign * 19000, sign * 5000, "(drop," + sign * 9000, "(drop," + sign * 9000 + ")", "1" + sign * 9000, "1: 0=" + sign * 9000,
                         "(drop," + "(" * 9000 + ")" * 9000, "1[" * 9000 + "0" + "]" * 9000, sign * 9000 + ": 0=1", "2[0," + sign * 9000 + "]"):
                self.assertRefused(shell, "what", text, "keep a " + text, "goes a " + text, "do " + text, "rule a" + text)
        self.assertAnswers(shell, ("redo", "version 3"))

    def test_30_and_31_brackets(self):
        shell = self.shell()
        self.assertExact(shell.say("do (drop," + "(" * 29 + ")" * 29 + ")"), "error NoName")
        self.assertExact(shell.say("do (drop," + "(" * 30 + ")" * 30 + ")"), "what")
        self.assertExact([shell.say("do (drop,9999999)"), shell.say("do (drop,10000000)")], ["error NoName", "what"])


class Whole(ShellCase):
    """Shells beside a shell by the words of the document."""

    def line(self, rng, maker):
        chance = rng.random()
        if chance < 0.1:
            return rng.choice(What.WRONG)
        if chance < 0.35:
            edit = maker.edit(rng, rng.choice(["deed", "deed", "deed", "batch", "keep", "drop"]))
            try:
                text = "do " + log_text((edit,))[:-1]
            except TypeError:
                text = "do"
            return text if len(text) < 9000 else "do"
        names = [rng.choice("aaabbbcccdefghi") for _ in range(2)]
        rule = maker.rule(rng)
        text = text_of(rule) if test_boards.outcome(Board().keep, "a", rule)[0] == "returned" else "5 5"
        return rng.choice(["keep " + names[0] + " " + text, "keep " + names[0] + " " + text, "drop " + names[0], "pack " + " ".join(names),
                           "unpack " + " ".join(names), "undo", "redo", "names", "rule " + names[0], "goes " + names[0] + " 0 1 3",
                           "goes " + names[0] + " none", "same " + " ".join(names), "same " + " ".join(names), "made"])

    def test_against_the_words(self):
        maker, told = test_boards.Whole(), {}
        for seed in range(150):
            rng = random.Random(seed)
            shell, board = Shell(), Board()
            for _ in range(70):
                line = self.line(rng, maker)
                answer = shell.say(line)
                self.assertExact(answer, plain_say(board, line), line)
                self.assertExact(type(answer), str)
                told[answer] = told.get(answer, 0) + 1
            self.assertExact(self.state(shell), [list(board), [text_of(board[name]) for name in board], str(board.made)])
        for answer in ("yes", "no", "what", "none", "error NoName", "error Unfit", "error NoNest", "error NoTree", "error NothingToUndo",
                       "error NothingToRedo", "error Rejected", "error TooMany", "error NoPart", "error NoButton"):
            self.assertIn(answer, told)

    def test_two_shells_do_not_meet(self):
        one, other = Shell(), Shell()
        self.assertAnswers(one, ("keep a " + tree_text(ALARM), "version 1"), ("pack a b", "version 2"), ("rule b", scale_text(ONE)),
                           ("same a b", "yes"), ("undo", "version 1"))
        self.assertAnswers(other, ("names", "none"), ("made", "0"), ("undo", "error NothingToUndo"), ("redo", "error NothingToRedo"),
                           ("keep z 5", "version 1"))
        self.assertAnswers(one, ("redo", "version 2"), ("names", "a b"), ("rule z", "error NoName"), ("made", "1"))

    def test_by_name(self):
        self.assertExact(Shell().say(line="names"), "none")
