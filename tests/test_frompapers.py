"""Papers that no tree is of a family: points G3 and G4."""

import itertools
import random

from onescale.errors import NoTree
from onescale.fromlots import tree_of
from onescale.frompapers import tree_paper_holds
from onescale.told import is_told
from onescale.trips import tree_error
from tests.support import (
    ANY_VALUES, BIG, SMALL_TREES, Case, all_families, leaves, plain_least, set_partitions, told_trees)

FIVE = ((0, 1), (0, 2), (1, 2, 3), (1, 2, 4))


def plain_paper_holds(lots, paper):
    """By the words of G3, for a pair."""
    word, parts = paper
    if word != "stuck" or type(parts) is not tuple or len(parts) < 2:
        return False
    if any(tree_error(part) is not None or not is_told(part) for part in parts):
        return False
    buttons = [leaves(part) for part in parts]
    if sorted(sum(buttons, [])) != sorted(set(sum(lots, ()))) or [min(row) for row in buttons] != sorted(map(min, buttons)):
        return False
    least = [plain_least(part) for part in parts]
    patterns = set()
    for lot in lots:
        met = [tuple([button for button in lot if button in row]) for row in buttons]
        if any(meet and meet not in rows for meet, rows in zip(met, least)):
            return False
        places = tuple([place for place, meet in enumerate(met) if meet])
        patterns.add(places)
    for places in patterns:
        for row in itertools.product(*[least[place] for place in places]):
            if tuple(sorted(sum(row, ()))) not in lots:
                return False
    return not [row for row in plain_classes(patterns, len(parts)) if len(row) > 1 and not has_unlike(patterns, row)]


def plain_classes(patterns, many):
    """For each place the tuple of it and of all that are exchangeable with it."""
    def turned(pattern, one, other):
        return tuple(sorted([{one: other, other: one}.get(place, place) for place in pattern]))
    return [tuple([other for other in range(many) if set(turned(row, place, other) for row in patterns) == patterns])
            for place in range(many)]


def has_unlike(patterns, row):
    """Whether two patterns have unlike numbers of these places, each at least one."""
    return len(set(len(set(row) & set(pattern)) for pattern in patterns) - {0}) > 1


def all_parts(buttons):
    """All tuples of two told trees or more of just these buttons, by their least buttons."""
    return [parts for pieces in set_partitions(buttons) if len(pieces) > 1
            for parts in itertools.product(*[told_trees(piece) for piece in pieces])]


class Papers(Case):

    def test_all_papers_of_families_of_four_buttons(self):
        with_tree = without = 0
        for family in all_families(range(4)):
            buttons = tuple(sorted(set(sum(family, ()))))
            held = []
            for parts in all_parts(buttons):
                wanted = plain_paper_holds(family, ("stuck", parts))
                held.append(wanted)
                self.assertExact(tree_paper_holds(family, ("stuck", parts)), wanted, (family, parts))
            # There is a tree or a paper, never both.
            try:
                tree_of(family)
            except NoTree as error:
                without += 1
                self.assertTrue(any(held))
                self.assertIn(error.paper, [("stuck", parts) for parts in all_parts(buttons)])
                continue
            with_tree += 1
            self.assertFalse(any(held), family)
        self.assertExact([with_tree, without], [126, 40])

    def test_families_of_five_buttons(self):
        rng = random.Random(7)
        families = [family for family in all_families(range(5)) if len(set(sum(family, ()))) == 5]
        every = all_parts(tuple(range(5)))
        held = 0
        for family in [FIVE] + rng.sample(families, 150):
            papers = [rng.choice(every) for _ in range(20)]
            try:
                tree_of(family)
            except NoTree as error:
                papers.append(error.paper[1])
            for parts in papers:
                wanted = plain_paper_holds(family, ("stuck", parts))
                held += wanted
                self.assertExact(tree_paper_holds(family, ("stuck", parts)), wanted, (family, parts))
        self.assertGreater(held, 80)

    def test_families_of_trees_have_none(self):
        rng = random.Random(8)
        for tree in rng.sample(SMALL_TREES, 150):
            family = tuple(plain_least(tree))
            buttons = tuple(sorted(leaves(tree)))
            if len(buttons) > 1:
                self.assertExact(tree_paper_holds(family, ("stuck", buttons)), False)
                cut = rng.randint(1, len(buttons) - 1)
                for left in told_trees(buttons[:cut])[:5]:
                    for right in told_trees(buttons[cut:])[:5]:
                        self.assertExact(tree_paper_holds(family, ("stuck", (left, right))), False)

    def test_parts_of_many_least_lots(self):
        # A part with more least lots than a family has lots.
        family = (tuple(range(6)),)
        half = (6, tuple(range(12)))
        self.assertExact(tree_paper_holds(family, ("stuck", (half, 50))), False)
        lots = tuple([tuple(range(6)) + (12,), (0, 13), (12, 13)])
        self.assertExact(tree_paper_holds(tuple(sorted(lots)), ("stuck", (half, 12, 13))), False)
        # The lots of 20 times 15 least lots, but one.
        tree = (2, ((3, tuple(range(6))), (2, tuple(range(6, 12)))))
        full = [three + two for three in itertools.combinations(range(6), 3) for two in itertools.combinations(range(6, 12), 2)]
        self.assertExact(tree_paper_holds(tuple(full), ("stuck", tree[1])), False)
        self.assertExact(tree_paper_holds(tuple(full[1:]), ("stuck", tree[1])), False)

    def test_parts_that_can_not_be_exchanged(self):
        # A path of three, a ring of five, and two lots of three that share one button less than they have.
        self.assertExact(tree_paper_holds(((0, 1), (1, 2), (2, 3)), ("stuck", (0, 1, 2, 3))), True)
        ring = ((0, 1), (0, 4), (1, 2), (2, 3), (3, 4))
        self.assertExact(tree_paper_holds(ring, ("stuck", (0, 1, 2, 3, 4))), True)
        self.assertExact(tree_paper_holds(((0, 1, 2), (1, 2, 3)), ("stuck", (0, 1, 2, 3))), False)
        self.assertExact(tree_paper_holds(((0, 1, 2), (1, 2, 3)), ("stuck", ((1, (0, 3)), (2, (1, 2))))), False)

    def test_papers_with_one_thing_turned(self):
        path = ((0, 1), (1, 2), (2, 3))
        for wrong in (("stuck", [0, 1, 2, 3]), ["stuck", (0, 1, 2, 3)], ("stuck", (0, 1, 2, 3), 0), ("stuck",), ("Stuck", (0, 1, 2, 3)),
                      ("stuck", (0, 1, 3, 2)), ("stuck", (0, 1, 2)), ("stuck", (0, 1, 2, 3, 4)), ("stuck", (0, 1, 2, 2)),
                      ("stuck", (False, 1, 2, 3)), ("stuck", (0, True, 2, 3)), ("stuck", (0, 1, 2, (1, (3,)))),
                      ("stuck", ((1, (0, 1)), 2, 3)), ("stuck", (0, (2, (1, 2)), 3)), ("stuck", ((1, (0, 3)), 1, 2)),
                      ("stuck", ()), ("stuck", (0,)), ("stuck", None), ("stuck", 0), ((0, 1, 2, 3), "stuck"), (None, (0, 1, 2, 3)),
                      ("stuck", (0, 1, 2, (3,))), ("stuck", (0, 1, 2, [3])), ("stuck", (0, 1, 2, 3, 3)), ("stuck", (0, 1, 2, BIG)),
                      ("stuck", ((2, (0, 1)), (2, (2, 3)))), ("stuck", (0, 1, 2, (2, (3, 4)))), ("stuck", (0, 1, 2, (2, (3,)))),
                      ("stuck", ((1, (0, 1, 2, 3)),)), ("stuck", ((0, 1, 2, 3),)), (True, (0, 1, 2, 3)), "stuck"):
            self.assertExact(tree_paper_holds(path, wrong), False, wrong)
        self.assertExact(tree_paper_holds(path, ("stuck", (0, 1, 2, 3))), True)
        right = ("stuck", (0, 1, 2, (1, (3, 4))))
        self.assertExact(tree_paper_holds(FIVE, right), True)
        for lots in (FIVE[1:], FIVE[:3], FIVE[:2] + FIVE[3:], ((0, 1, 4),) + FIVE[1:], FIVE + ((3, 4),)):
            self.assertExact(tree_paper_holds(lots, right), plain_paper_holds(lots, right), lots)
        for wrong in ((0, 1, 2, (1, (4, 3))), (0, 1, 2, (2, (3, 4))), (0, 1, 2, 3, 4), (0, (1, (1, 2)), (1, (3, 4))),
                      (0, (2, (1, 2)), (1, (3, 4))), (0, 1, 2, (1, (3, (1, (4,))))), ((1, (3, 4)), 0, 1, 2)):
            self.assertExact(tree_paper_holds(FIVE, ("stuck", wrong)), False, wrong)

    def test_nested_parts(self):
        # In the path one-ofs, some-ofs and all-ofs stand for the buttons 1 and 3.
        inner = (2, (10, 11, (1, (12, 13))))
        parts = (0, (1, (1, (2, (5, 6)))), 2, (2, (3, 4, 7)), inner)
        lots = []
        for row in ((0, 1), (1, 2), (2, 3), (3, 4)):
            for pieces in itertools.product(*[plain_least(parts[place]) for place in row]):
                lots.append(tuple(sorted(sum(pieces, ()))))
        lots = tuple(sorted(lots))
        self.assertExact(plain_paper_holds(lots, ("stuck", parts)), True)
        self.assertExact(tree_paper_holds(lots, ("stuck", parts)), True)
        for place in range(len(lots)):
            less = lots[:place] + lots[place + 1:]
            self.assertExact(tree_paper_holds(less, ("stuck", parts)), plain_paper_holds(less, ("stuck", parts)))

    def test_any_value(self):
        for lots in (((0,),), ((0, 1), (1, 2), (2, 3)), FIVE):
            for value in ANY_VALUES + [("stuck", value) for value in ANY_VALUES]:
                self.assertExact(tree_paper_holds(lots, value), False, value)
                self.assertLeavesAsItIs(tree_paper_holds, lots, value)
