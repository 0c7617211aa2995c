"""What the tests share: exact comparison, trees by the hundred, any values, and plain reckonings to check against."""

import copy
import itertools
import random
import unittest


def exact(value):
    """A value told with its kinds, so that True is not 1 and a list is no tuple."""
    kind = type(value).__name__
    if isinstance(value, (tuple, list)):
        return (kind, [exact(item) for item in value])
    if isinstance(value, dict):
        return (kind, sorted((repr(key), exact(worth)) for key, worth in value.items()))
    return (kind, value)


class Case(unittest.TestCase):
    """A test case that compares exactly."""

    def assertExact(self, got, wanted, note=None):
        self.assertEqual(exact(got), exact(wanted), note)

    def assertRaisesExact(self, wanted, function, *args):
        """The call raises an error of just the class of wanted, which keeps just the same."""
        with self.assertRaises(type(wanted)) as caught:
            function(*args)
        self.assertIs(type(caught.exception), type(wanted))
        self.assertExact(vars(caught.exception), vars(wanted))

    def assertLeavesAsItIs(self, function, *args):
        """The call does not change what it is handed."""
        before = copy.deepcopy(args)
        try:
            function(*args)
        except ValueError:
            pass
        self.assertExact(args, before)


# Values of all kinds.

def nested(kind, depth):
    """Values of one kind within one another."""
    value = {"tuple": (), "list": [], "dict": {}, "trip": 0}[kind]
    for _ in range(depth - 1):
        value = {"tuple": (value,), "list": [value], "dict": {"in": value}, "trip": (1, (value,))}[kind]
    return value


BIG = 10 ** 400 - 1

ANY_VALUES = [
    None, True, False, 0, 1, 2, 5, -1, 99, 100, BIG, -BIG,
    "", "0", "1", "none", "None", "5", "a line\nand more\n", "x" * 20000, "1" * 20000, "1[" * 10000, "[" * 20000,
    (), [], {}, (0,), [0], (1, 2), [1, 2], {0: 1}, {"a": (1, [2, {3: None}])}, {(1, 2): 3, None: 4, True: 5},
    (True,), (False,), (True, 2), (0, True), (False, True), (None,), ("0",), ("a", "b"), ((),), ([],), ({},),
    (BIG,), (0, BIG), (-1,), (-1, 0), (1, 0), (1, 1), (0, 99), (0, 100), (1, (0,)), (True, (0,)), (1, [0]), [1, (0,)],
    (1, (True,)), (1, (0,), 0), (1, ()), (0, (0,)), (2, (0,)), (BIG, (0,)), ("1", (0,)), (None, (0, 1)),
    nested("tuple", 40), nested("list", 40), nested("dict", 40), nested("trip", 20), nested("trip", 14),
    tuple(range(100)), tuple(range(101)), tuple(range(6000)), list(range(6000)), (0,) * 6000, (True,) * 6000,
    {number: None for number in range(3000)}, tuple([(k, k) for k in range(1500)]), (1, tuple(range(25))),
    (1, tuple(range(24))), ((0, 1), (2, 3), 0, 2), [(0, 1), (2, 3), 0, 2], (None, None, None, None),
    ((0, 1), (2, 3), None, []), ("", "", "", ""), (1, (2, (3, (4, (5, 6))))),
    (((0, 1),), 1), [((0, 1),), 1], ([(0, 1)], 1), (([0, 1],), 1), (((0, True),), 1), (((False, 1),), 1), (((0, 1),), True),
    (((0, BIG),), 1), (((0, 1),), BIG), (((5, 1),), 1), (((0, 1), (1, 1)), 2), (((0, 1), (0, 1)), 2), ((), 1), (((0, 0),), 1),
    (((0, None),), 1), (((0, 1, 1),), 1), (((0, 1),), 1, 1), (((0, 1),), "1"), (((5,), ()),), [((5,), ())], (((0,), ()),) * 300,
    "1: 0=1", "1: 0=1 ", "1:0=1", ": 0=1", "1: =1", "1: 0=", "1: 0=1\n", "1: 0=" + "1" * 9000, "1" * 9000 + ": 0=1",
    "1: " + "0=1 " * 4000, "=" * 5000, ": " * 5000, " " * 5000, "1: 0=01", "1: 0=+1", "1: 0=1 0=1", "2: 0=1 1=1",
]


# Trees.

def compositions(items, many):
    """All ways to cut a sequence into so many pieces of one item or more."""
    if many == 1:
        yield (items,)
        return
    for cut in range(1, len(items) - many + 2):
        for rest in compositions(items[cut:], many - 1):
            yield (items[:cut],) + rest


def all_trees(buttons, depth):
    """All trees with just these buttons in this order whose ways have at most depth places."""
    found = [buttons[0]] if len(buttons) == 1 else []
    if depth:
        for many in range(1, len(buttons) + 1):
            for pieces in compositions(buttons, many):
                for parts in itertools.product(*[all_trees(piece, depth - 1) for piece in pieces]):
                    found.extend((bound, parts) for bound in range(1, many + 1))
    return found


def random_tree(rng, buttons, depth=12, single=0.15):
    """A tree with just these buttons, shuffled."""
    buttons = list(buttons)
    rng.shuffle(buttons)
    return _random_thing(rng, tuple(buttons), depth, single)


def _random_thing(rng, buttons, depth, single):
    if len(buttons) == 1 and (depth == 0 or rng.random() >= single):
        return buttons[0]
    if depth == 1:
        return (rng.randint(1, len(buttons)), buttons)
    many = 1 if len(buttons) == 1 or rng.random() < single else rng.randint(2, len(buttons))
    cuts = sorted(rng.sample(range(1, len(buttons)), many - 1))
    ends = [0] + cuts + [len(buttons)]
    parts = tuple([_random_thing(rng, buttons[low:high], depth - 1, single) for low, high in zip(ends, ends[1:])])
    return (rng.choice([1, many, rng.randint(1, many)]), parts)


def _made_small_trees():
    rng = random.Random(7)
    found = []
    for buttons in ((0,), (99,), (1,), (0, 1), (3, 2)):
        found.extend(all_trees(buttons, 3))
    for buttons in itertools.permutations((0, 4, 9)):
        found.extend(all_trees(buttons, 2))
    found.extend(all_trees((1, 2, 0), 3))
    found.extend(rng.sample(all_trees((5, 1, 8, 0), 3), 150))
    for size in (4, 5, 5, 5, 6, 6):
        found.extend(random_tree(rng, rng.sample(range(12), size), 5) for _ in range(30))
    for size in (4, 5, 5, 6):
        found.extend(_random_fork(rng, rng.sample(range(12), size)) for _ in range(30))
    return found


def _random_fork(rng, buttons):
    """A trip with two parts that are trips and perhaps buttons, perhaps within another trip."""
    cut = rng.randint(2, len(buttons) - 2)
    parts = [(rng.randint(1, cut), tuple(buttons[:cut])), (rng.randint(1, 2), tuple(buttons[cut:cut + 2]))]
    further = buttons[cut + 2:]
    around = further[:1] if rng.random() < 0.3 else []
    parts.extend(further[len(around):])
    rng.shuffle(parts)
    fork = (rng.randint(1, len(parts)), tuple(parts))
    return (rng.randint(1, 2), (around[0], fork)) if around else fork


SMALL_TREES = _made_small_trees()

# Trees nested 12 deep: bounds in turn one and two; and a button in trips of one part.
STAIRS = 11
for _button in range(10, -1, -1):
    STAIRS = (1 + _button % 2, (_button, STAIRS))
STAIRS = (1, (STAIRS,))
WELL = (2, (50, nested("trip", 12), 51))

HALF = (12, tuple(range(24)))


def large_trees():
    """Trees of 24 buttons, some of them nested 12 deep."""
    rng = random.Random(24)
    found = [HALF, (1, tuple(range(24))), (24, tuple(range(24))), STAIRS, WELL]
    for _ in range(8):
        found.append(random_tree(rng, rng.sample(range(100), 24), 12, 0.05))
    deep = 23
    for button in range(22, 0, -2):
        deep = (rng.randint(1, 3), (button, button - 1, deep))
    deep = (2, (0, deep))
    found.append(deep)
    return found


# Plain reckonings, by the words of the document.

def leaves(tree):
    """The buttons of a tree in their order."""
    if isinstance(tree, int):
        return [tree]
    return [button for part in tree[1] for button in leaves(part)]


def plain_goes(tree, lot):
    """Whether a tree goes with a lot."""
    if isinstance(tree, int):
        return tree in set(lot)
    return sum(1 for part in tree[1] if plain_goes(part, lot)) >= tree[0]


def lots_of(buttons):
    """All lots of these buttons, ascending."""
    buttons = sorted(buttons)
    found = []
    for size in range(len(buttons) + 1):
        found.extend(itertools.combinations(buttons, size))
    return sorted(found)


def going_lots(tree):
    """All lots of the tree's buttons that go, ascending."""
    return [lot for lot in lots_of(leaves(tree)) if plain_goes(tree, lot)]


def plain_least(tree):
    """All least lots, ascending: those that go and do not hold another one that goes."""
    going = going_lots(tree)
    return [lot for lot in going if not any(
        plain_goes(tree, lot[:place] + lot[place + 1:]) for place in range(len(lot)))]


def put_to(lot, *buttons):
    """The lot with buttons put to it."""
    return tuple(sorted(lot + buttons))


def all_ways(thing):
    """The pairs of a way and of what it leads to, by ascending ways."""
    found = {(): thing}
    todo = [()]
    while todo:
        way = todo.pop()
        if isinstance(found[way], tuple):
            for place, part in enumerate(found[way][1]):
                found[way + (place,)] = part
                todo.append(way + (place,))
    return sorted(found.items())


def shuffled(rng, tree):
    """A tree that is alike, with parts in another order, trips of one part, and one-ofs and all-ofs cut in two."""
    if isinstance(tree, int):
        return (1, (tree,)) if rng.random() < 0.2 else tree
    bound, parts = tree[0], list(tree[1])
    rng.shuffle(parts)
    parts = [shuffled(rng, part) for part in parts]
    if len(parts) > 2 and bound in (1, len(parts)) and rng.random() < 0.7:
        cut = rng.randint(1, len(parts) - 2)
        inner = (1 if bound == 1 else len(parts) - cut, tuple(parts[cut:]))
        parts = parts[:cut] + [inner]
        bound = 1 if bound == 1 else len(parts)
    made = (bound, tuple(parts))
    return (1, (made,)) if rng.random() < 0.1 else made


# Nests and scales.

def nest_from(shape, buttons):
    """The nest with levels (bound, how many buttons), the outermost first, that get the buttons in their order."""
    (bound, many), rest = shape[0], shape[1:]
    own = tuple(buttons[:many])
    return (bound, own + (nest_from(rest, buttons[many:]),)) if rest else (bound, own)


# Twelve levels of 24 buttons with the greatest pairs, by their sum and by their greater item, and weights.
GREATEST_SHAPES = [
    ((1, 1),) + ((3, 2), (1, 2)) * 5 + ((3, 3),),
    ((1, 2), (3, 2)) * 5 + ((1, 2), (2, 2)),
    ((2, 1), (1, 2)) + ((3, 2), (1, 2)) * 4 + ((3, 2), (1, 3)),
]
GREATEST_PAIRS = [(19601, 27720), (13860, 33461), (27720, 19601)]

# Nests in which the outermost buttons weigh 300 and 301.
NEST_300 = nest_from(((2, 4), (2, 3), (2, 1), (3, 3), (2, 4), (1, 2), (3, 3)), range(20))
NEST_301 = nest_from(((5, 4), (1, 1), (2, 1), (1, 1), (2, 1), (1, 4), (4, 4), (3, 4)), range(20))


def some_nests():
    """Nests of many buttons, told with other orders, trips of one part and trips cut in two, too."""
    rng = random.Random(12)
    found = [nest_from(shape, rng.sample(range(100), 24)) for shape in GREATEST_SHAPES]
    found += [NEST_300, NEST_301, STAIRS, WELL, HALF, (1, tuple(range(24))), (24, tuple(range(24)))]
    for _ in range(20):
        shape = [(1, rng.randint(2, 4))]
        while len(shape) < 12 and sum(many for _, many in shape) < 20:
            shape.insert(0, (1, rng.randint(1, 4)))
        shape = [(rng.randint(1, many + (place < len(shape) - 1)), many) for place, (_, many) in enumerate(shape)]
        found.append(nest_from(shape, rng.sample(range(100), sum(many for _, many in shape))))
    return found + [shuffled(rng, tree) for tree in found[:5]]


def plain_scale_goes(scale, lot):
    """Whether a lot goes on a scale."""
    return sum(weight for button, weight in scale[0] if button in set(lot)) >= scale[1]


def scale_buttons(scale):
    return [button for button, _ in scale[0]]


def plain_scale_lots(scale):
    """All lots of the scale's buttons that go, while each lot that is left with a button less fails."""
    return tuple([lot for lot in lots_of(scale_buttons(scale)) if plain_scale_goes(scale, lot) and not any(
        plain_scale_goes(scale, lot[:place] + lot[place + 1:]) for place in range(len(lot)))])


def all_scales(buttons, most):
    """All scales of just these buttons with weights up to most."""
    for weights in itertools.product(range(most + 1), repeat=len(buttons)):
        for bound in range(1, sum(weights) + 1):
            yield (tuple(zip(buttons, weights)), bound)


def random_scale(rng, buttons, most):
    """A scale of just these buttons with weights up to most."""
    weights = [rng.choice([0, 1, most, rng.randint(0, most), rng.randint(0, most)]) for _ in buttons]
    weights[0] = max(1, weights[0])
    return (tuple(zip(sorted(buttons), weights)), rng.randint(1, sum(weights)))


def _made_small_scales():
    rng = random.Random(9)
    found = []
    for buttons in ((0,), (99,), (1, 2), (0, 5, 9)):
        found.extend(all_scales(buttons, 3))
    for size in (4, 4, 5, 5, 6):
        found.extend(random_scale(rng, rng.sample(range(12), size), most) for most in (1, 2, 3, 4, 5, 7, 9, 99999) * 3)
    return found


SMALL_SCALES = _made_small_scales()


# Families of lots.

def _rising(buttons):
    """All sets of lots of the buttons that hold with each lot all lots around it, but not ()."""
    if not buttons:
        return [frozenset(), frozenset([()])]
    inner = _rising(buttons[1:])
    return [frozenset([(buttons[0],) + lot for lot in larger]) | smaller
            for smaller in inner for larger in inner if smaller <= larger]


def all_families(buttons):
    """All families of lots of these buttons, perhaps of fewer."""
    found = []
    for going in _rising(tuple(buttons)):
        if going and () not in going:
            found.append(tuple(sorted(lot for lot in going if not any(
                lot[:place] + lot[place + 1:] in going for place in range(len(lot))))))
    return found


def told_trees(buttons):
    """All told trees with just these buttons, by set partitions."""
    if len(buttons) == 1:
        return [buttons[0]]
    found = []
    for pieces in set_partitions(buttons):
        if len(pieces) == 1:
            continue
        for parts in itertools.product(*[told_trees(piece) for piece in pieces]):
            for bound in range(1, len(parts) + 1):
                kinds = ((bound == 1) * ["one-of"] + (bound == len(parts)) * ["all-of"])
                inner = [kind_of_trip(part) for part in parts if isinstance(part, tuple)]
                if not set(kinds) & set(inner):
                    found.append((bound, parts))
    return found


def kind_of_trip(trip):
    return "one-of" if trip[0] == 1 else "all-of" if trip[0] == len(trip[1]) else "some-of"


def set_partitions(items):
    """All ways to part a tuple, the pieces in the order of their first items."""
    if not items:
        return [()]
    found = []
    for size in range(len(items)):
        for more in itertools.combinations(items[1:], size):
            rest = tuple([item for item in items[1:] if item not in more])
            found.extend(((items[0],) + more,) + others for others in set_partitions(rest))
    return found


# Shapes.

def level_kind(shape, place):
    """Whether a level is one-of, all-of or neither."""
    k, s = shape[place]
    if k == 1:
        return "one-of"
    return "all-of" if k == (s if place == len(shape) - 1 else s + 1) else "some-of"


def all_shapes(n):
    """All shapes with n buttons, by the words of H1."""
    if n == 1:
        return [((1, 1),)]
    found = []
    for many in range(1, n):
        for pieces in compositions(tuple(range(n)), many):
            sizes = [len(piece) for piece in pieces]
            if sizes[-1] < 2:
                continue
            bounds = [range(1, size + 2) for size in sizes[:-1]] + [range(1, sizes[-1] + 1)]
            for row in itertools.product(*bounds):
                shape = tuple(zip(row, sizes))
                kinds = [level_kind(shape, place) for place in range(many)]
                if not any(one == other != "some-of" for one, other in zip(kinds, kinds[1:])):
                    found.append(shape)
    return sorted(found)


def is_plain(shape):
    return all(level_kind(shape, place) != "some-of" for place in range(len(shape)))


def plain_pair(shape):
    """By the words of E3 for levels (k, s): the pair, and the weights of the levels."""
    k, s = shape[0]
    if len(shape) == 1:
        return (k, s - k + 1), (1,)
    (a, b), weights = plain_pair(shape[1:])
    v = max([a] * (s >= k) + [b] * (k >= 2))
    return (a + (k - 1) * v, b + (s - k + 1) * v), (v,) + weights
