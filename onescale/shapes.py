"""How many trees there are: of unlike builds, and with given buttons."""

from math import comb


def tree_shapes(n):
    """How many told trees with n buttons there are if all of one build count once."""
    total = 1
    # Row p, item m: ways to choose p builds with m buttons in all; and the same of builds that are no one-of.
    chosen = _with_builds(_nothing_chosen(n), 1, 1)
    chosen_others = chosen
    for many in range(2, n + 1):
        one_ofs = sum([row[many] for row in chosen_others])
        total = 2 * one_ofs + _some_ofs([row[many] for row in chosen])
        chosen = _with_builds(chosen, many, total)
        chosen_others = _with_builds(chosen_others, many, total - one_ofs)
    return total


def _some_ofs(ways):
    """The outermost trips with unlike bounds that are no one-of and no all-of; item p of ways is of p parts."""
    return sum([(number - 2) * found for number, found in enumerate(ways) if number > 2])


def _nothing_chosen(n):
    """The one way to choose no builds, among rows for up to n of them with up to n buttons."""
    rows = [[0] * (n + 1) for _ in range(n + 1)]
    rows[0][0] = 1
    return rows


def _with_builds(chosen, size, kinds):
    """The ways to choose builds when so many kinds of a further size are to be had, each as often as one likes."""
    n = len(chosen) - 1
    found = [[0] * (n + 1) for _ in range(n + 1)]
    for number, row in enumerate(chosen):
        for buttons, ways in enumerate(row):
            if ways > 0:
                for more in range((n - buttons) // size + 1):
                    found[number + more][buttons + more * size] += ways * comb(kinds + more - 1, more)
    return found


def tree_count(n):
    """How many told trees have just the buttons 0, 1, .., n - 1."""
    # Row m, item p: ways to deal m buttons out to p told trees; and the same of trees that are no one-of.
    dealt, dealt_others = [[1], [0, 1]], [[1], [0, 1]]
    for _ in range(2, n + 1):
        row, row_others = _dealt(dealt), _dealt(dealt_others)
        one_ofs = sum(row_others)
        row[1] = 2 * one_ofs + _some_ofs(row)
        row_others[1] = row[1] - one_ofs
        dealt.append(row)
        dealt_others.append(row_others)
    return dealt[n][1]


def _dealt(rows):
    """Of one button more than rows tell: item p the ways to deal them out to p trees, p two or more."""
    many = len(rows)
    found = [0] * (many + 1)
    # Each tree has fewer buttons than all; the first button stands in one of own buttons.
    for own in range(1, many):
        ways = comb(many - 1, own - 1) * rows[own][1]
        for number, rest in enumerate(rows[many - own]):
            found[number + 1] += ways * rest
    return found
