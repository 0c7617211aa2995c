"""How many trees there are: points I1 to I3 and I7."""

import math

from onescale.shapes import tree_count, tree_shapes
from tests.support import Case, told_trees


def build_of(tree):
    """What is left of a told tree if it makes no difference which button is which, nor the order of parts."""
    if isinstance(tree, int):
        return "b"
    return "%d(%s)" % (tree[0], "".join(sorted(build_of(part) for part in tree[1])))


def number_partitions(n, most):
    """All ways to write n as numbers from most on downward: dicts of a number and how often it stands."""
    if n == 0:
        return [{}]
    found = []
    for size in range(min(n, most), 0, -1):
        for often in range(1, n // size + 1):
            found.extend({size: often, **rest} for rest in number_partitions(n - size * often, size - 1))
    return found


def builds_by_partitions(last):
    """By the words of I3, over all ways to part the numbers of buttons: A(0) to A(last)."""
    counts, others = [0, 1], [0, 1]
    for n in range(2, last + 1):
        one_ofs = some_ofs = 0
        for sizes in number_partitions(n, n - 1):
            parts = sum(sizes.values())
            one_ofs += math.prod(math.comb(others[size] + often - 1, often) for size, often in sizes.items())
            some_ofs += max(0, parts - 2) * math.prod(
                math.comb(counts[size] + often - 1, often) for size, often in sizes.items())
        counts.append(2 * one_ofs + some_ofs)
        others.append(one_ofs + some_ofs)
    return counts


def trees_by_partitions(last):
    """Likewise for told trees of buttons that are dealt out."""
    counts, others = [0, 1], [0, 1]
    for n in range(2, last + 1):
        one_ofs = some_ofs = 0
        for sizes in number_partitions(n, n - 1):
            parts = sum(sizes.values())
            ways = math.factorial(n)
            for size, often in sizes.items():
                ways //= math.factorial(size) ** often * math.factorial(often)
            one_ofs += ways * math.prod(others[size] ** often for size, often in sizes.items())
            some_ofs += max(0, parts - 2) * ways * math.prod(counts[size] ** often for size, often in sizes.items())
        counts.append(2 * one_ofs + some_ofs)
        others.append(one_ofs + some_ofs)
    return counts


class Shapes(Case):

    def test_all_told_trees(self):
        for n in range(1, 7):
            trees = told_trees(tuple(range(n)))
            self.assertEqual(len(set(trees)), len(trees))
            self.assertExact(tree_count(n), len(trees))
            self.assertExact(tree_shapes(n), len(set(build_of(tree) for tree in trees)))

    def test_by_partitions_up_to_24(self):
        builds, trees = builds_by_partitions(24), trees_by_partitions(24)
        for n in range(1, 25):
            self.assertExact(tree_shapes(n), builds[n])
            self.assertExact(tree_count(n), trees[n])

    def test_ends(self):
        self.assertExact([tree_shapes(1), tree_count(1)], [1, 1])
        self.assertExact([tree_shapes(24), tree_count(24)], [54112965571322, 6196911499667699512106673550937402])
