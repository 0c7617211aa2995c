"""Point A3 and the interface, for every def: names of arguments, kinds of what is returned, equal calls."""

import copy
import importlib
import inspect

from onescale.boards import Board
from tests.support import HALF, SMALL_TREES, STAIRS, WELL, Case, large_trees, leaves

# Of each module its defs with the names of their arguments.
DEFS = {
    "trips": {"tree_error": ["value"], "buttons_of": ["tree"], "ways": ["tree"], "part_at": ["tree", "value"],
              "way_to": ["tree", "value"], "depth_of": ["tree"]},
    "lots": {"lot_error": ["value"], "goes": ["tree", "lot"], "going_ways": ["tree", "lot"], "counts": ["tree", "lot"]},
    "triptexts": {"tree_text": ["tree"], "read_tree": ["value"], "lot_text": ["lot"], "read_lot": ["value"]},
    "told": {"told": ["tree"], "is_told": ["tree"], "alike": ["one", "other"]},
    "stuck": {"left": ["tree", "on", "off"]},
    "parting": {"parting_lot": ["one", "other"]},
    "contraries": {"contrary": ["tree"]},
    "leastlots": {"least_lots": ["tree"], "is_least": ["tree", "lot"], "thinned": ["tree", "lot"]},
    "leastcounts": {"least_count": ["tree", "must", "never"], "least_sizes": ["tree"], "least_at": ["tree", "value"],
                    "least_number": ["tree", "value"]},
    "goingcounts": {"going_count": ["tree", "must", "never"], "going_sizes": ["tree"], "going_at": ["tree", "value"],
                    "going_number": ["tree", "value"]},
    "ranks": {"no_worse": ["tree", "one", "other"], "worse_lot": ["tree", "one", "other"], "alike_buttons": ["tree"],
              "above": ["tree"], "is_chain": ["tree"], "gain": ["tree", "one", "other"]},
    "swaps": {"swap_of": ["tree"], "swap_holds": ["tree", "value"]},
    "nests": {"is_nest": ["tree"], "fork": ["tree"], "levels": ["tree"], "pair": ["tree"], "scale_of": ["tree"]},
    "weighing": {"least_going": ["tree", "rows"], "greatest_failing": ["tree", "rows"], "weights_hold": ["tree", "value"]},
    "leastness": {"weight_paper": ["tree", "value"], "weight_paper_holds": ["tree", "button", "value"]},
    "scales": {"scale_error": ["value"], "scale_goes": ["scale", "lot"], "scale_contrary": ["scale"], "idle": ["scale"],
               "scale_lots": ["scale"]},
    "scalealike": {"scales_alike": ["one", "other"], "scale_parting": ["one", "other"]},
    "sums": {"sum_counts": ["scale"], "scale_going": ["scale"]},
    "scaletexts": {"scale_text": ["scale"], "read_scale": ["value"]},
    "fromlots": {"lots_error": ["value"], "tree_of": ["lots"]},
    "frompapers": {"tree_paper_holds": ["lots", "value"]},
    "fromscales": {"nest_of": ["scale"], "lowered": ["scale"], "is_of_trips": ["scale"]},
    "euclid": {"shape_of": ["tree"], "nest_by": ["shape", "buttons"], "pair_of": ["shape"], "shape_weights": ["shape"],
               "contrary_shape": ["shape"], "greatest_weight": ["shape"], "greatest_needed": ["n"], "plain_of": ["a", "b"],
               "quotients": ["a", "b"]},
    "plainrows": {"plain_count": ["n"], "plain_at": ["n", "value"], "plain_number": ["shape"], "with_sum": ["total"]},
    "shapes": {"tree_shapes": ["n"], "tree_count": ["n"]},
    "nestshapes": {"nest_shapes": ["n"], "nest_count": ["n"], "nest_at": ["n", "value"], "nest_number": ["shape"],
                   "own_contrary": ["n"]},
    "turns": {"turn_count": ["tree", "value"], "turn_sizes": ["tree", "value"], "order_share": ["tree", "value"],
              "shares": ["tree"]},
    "looks": {"settled": ["tree", "on", "off"], "shown": ["tree", "lot"], "shown_size": ["tree", "lot"],
              "shown_count": ["tree", "lot"], "shown_holds": ["tree", "lot", "value"]},
    "foes": {"foe": ["tree", "on", "off", "value"], "asked_out": ["tree", "buttons"]},
    "frames": {"frame_error": ["value"], "gaps": ["frame"], "filled": ["frame", "bounds"], "book_error": ["value"]},
    "fillings": {"fillings_left": ["frame", "book"], "any_filling": ["frame", "book"], "bounds_left": ["frame", "book"],
                 "read_lot_by": ["frame", "book", "lot"]},
    "fillpapers": {"filling_paper_holds": ["frame", "book", "value"]},
    "deeds": {"put": ["tree", "way", "button"], "taken_out": ["tree", "button"], "bounded": ["tree", "way", "k"],
              "dissolved": ["tree", "way"], "as_one": ["tree", "way", "button"], "exchanged": ["tree", "one", "other"]},
    "effects": {"gained": ["one", "other"]},
    "hands": {"fewest_lost": ["tree"], "hands_hold": ["tree", "value"]},
    "runs": {"run": ["tree", "events"], "changes": ["tree", "events"], "run_scale": ["scale", "events"],
             "fewest_presses": ["tree", "lot"], "fewest_lets": ["tree", "lot"]},
    "logs": {"log_text": ["edits"], "read_log": ["value"], "board_behind": ["edits"]},
}

# Of each class its methods with the names of their arguments, and what can be read off its objects.
CLASSES = {
    "watches": ("Watch", {"__init__": ["tree"], "press": ["button"], "let": ["button"], "__len__": []}, ["goes", "pressed", "touched"]),
    "boards": ("Board", {
        "__init__": [], "keep": ["name", "rule"], "drop": ["name"], "deed": ["name", "word", "items"], "pack": ["name", "other"],
        "unpack": ["name", "other"], "batch": ["edits"], "tells": ["name", "lot"], "same": ["name", "other"], "undo": [], "redo": [],
        "at": ["version"], "copy": [], "attempt": ["work"], "__len__": []}, ["table", "version", "log", "made"]),
    "shells": ("Shell", {"__init__": [], "say": ["line"]}, []),
}

# What stands for an argument of this name; for value what the def expects there, or something wrong.
TREES = [5, 1, 0, (2, (0, (1, (3, 4)), 7)), (1, ((2, (1, 0)), (2, (5, 3)))), (1, ((1, (1,)),)), STAIRS, WELL]
SCALES = [(((5, 1),), 1), (((0, 2), (3, 1), (4, 1), (7, 2)), 3), (((0, 2), (1, 0)), 2), (((1, 99999), (3, 5)), 7),
          (((0, 1), (1, 1), (3, 1), (5, 1)), 2), (tuple([(button, 83) for button in range(13)]), 500),
          (((0, 3), (1, 2), (2, 2), (3, 1)), 5)]
PLAIN_SHAPES = [((1, 1),), ((1, 2),), ((2, 1), (1, 2)), ((1, 3), (2, 1), (1, 2), (4, 4))]
SHAPES = PLAIN_SHAPES + [((2, 3),), ((3, 3), (2, 2), (3, 4)), ((1, 1), (2, 2), (3, 3)), ((2, 12), (5, 12))]
LOTS = [((5,),), ((0, 1), (0, 2), (1, 2)), ((0, 1), (1, 2), (2, 3)), ((0, 1, 5), (3,)), ((0, 1), (0, 2), (1, 2, 3), (1, 2, 4))]
STANDING = {
    "tree": TREES, "one": TREES, "other": TREES[::-1], "lot": [(), (0, 3), (1, 5, 99), tuple(range(100))],
    "on": [(), (0,), (1, 50)], "off": [(), (3,), (4, 60)], "must": [(), (0,), (1, 50)], "never": [(), (3,), (0, 60)],
    "value": [0, 1, 2, True, False, None, (), (0,), (1,), (True,), (0, 3), [0, 3], {0: [1]}, "1[5]", "0 3",
              (1, (0, [1])), (1, (5,)), ((0, 1), (3, 5), 0, 3), ((0, 1), [3, 5], 0, 3), "1: 5=1", "3: 0=2 3=1 4=1 7=2",
              SCALES[0], SCALES[1], list(SCALES[1]), (((5, 1),), True), (((5,), ()),), [((5,), ())], ((5,),), [(5,)], ((0, 1), (1, 0)),
              ((0,), (0, 1)), ("stuck", (0, 1, 2, 3)), ("stuck", (0, 1, 2, (1, (3, 4)))), ["stuck", (0, 1, 2, 3)],
              (None, (0, 1)), (((0,), True),), [((0,), True)], ("clashes", (0,)), ("clashes", (1, 1, 0, 0, 0, 0)),
              ("clashes", [0]), (0, ()), (False, ()), [0, ()], (1, ((0,),)), (1, ((1,),)), (True, ((0,),)), "(drop,a)\n", "(drop,a\n"],
    "scale": SCALES, "rows": [scale[0] for scale in SCALES], "button": [0, 1, 3, 5],
    "lots": LOTS, "shape": SHAPES, "buttons": [(5,), (0, 1), (3, 5, 8), tuple(range(10)), tuple(range(24)), tuple(range(25))],
    "n": [1, 2, 3, 5, 24], "total": [1, 2, 6, 999], "a": [1, 2, 3, 9, 10 ** 9], "b": [1, 2, 5, 16, 10 ** 9],
    "frame": [5, (2, (0, 1)), (None, (0, (None, (3, 4)), 7)), (None, (0, 1)),
              (None, tuple([(None, (2 * k, 2 * k + 1)) for k in range(12)]))],
    "book": [(), (((0, 3), True), ((3, 4), False)), (((), True),), (((0,), True), ((0, 3, 4), False)), (((5,), False),) * 12],
    "bounds": [(), (1,), (2, 1), (True, 1), (2, 3), (None,), ([1],)],
    "way": [(), (0,), (1,), (1, 0), (True,), [1], None], "k": [1, 2, 3, 0, True, None, [1]],
    "events": [(), (("press", 5),), (("press", 0), ("press", 3), ("let", 0), ("press", 1), ("press", 7)),
               (("press", 1), ("let", 1)) * 50],
    "edits": [(), (("keep", "a", TREES[3]), ("pack", "a", "b"), ("unpack", "b", "a")), (("batch", (("keep", "a", 5),) * 12),),
              (("drop", "a"),), (("keep", "a", SCALES[1]), ("deed", "a", "put", ((1, 0), 5)))],
}

# In ranks and in deeds one, other and button are buttons, or any values; in scalealike one and other are scales; in
# plainrows shapes are plain.
ONES = [0, 1, 3, True, False, None, 5, [0], "0"]
OTHER_ARGUMENTS = {"ranks": {"one": ONES, "other": ONES[::-1]}, "scalealike": {"one": SCALES, "other": SCALES[::-1]},
                   "plainrows": {"shape": PLAIN_SHAPES}, "deeds": {"one": ONES, "other": ONES[::-1], "button": ONES + [77]}}


def calls_of(module, name):
    """Calls of a def: what stands for each of its arguments."""
    rows = [{}]
    for argument in DEFS[module][name]:
        standing = OTHER_ARGUMENTS.get(module, {}).get(argument, STANDING[argument])
        rows = [dict(row, **{argument: value}) for row in rows for value in standing]
    # Where a button is no value it is one of the tree.
    return [row for row in rows if module != "leastness" or "button" not in row or row["button"] in leaves(row["tree"])]


def outcome(function, *args, **more):
    """What a call returns, or what it raises."""
    try:
        return ("returned", function(*args, **more))
    except ValueError as error:
        return ("raised", type(error).__name__, vars(error))


class Conventions(Case):

    def functions(self):
        for module in DEFS:
            for name in DEFS[module]:
                yield module, name, getattr(importlib.import_module("onescale." + module), name)

    def test_defined_where_they_are_listed(self):
        for module, name, function in self.functions():
            self.assertTrue(inspect.isfunction(function))
            self.assertEqual(function.__module__, "onescale." + module)
            self.assertEqual(function.__name__, name)

    def test_names_of_arguments(self):
        for module, name, function in self.functions():
            self.assertEqual(list(inspect.signature(function).parameters), DEFS[module][name], name)

    def test_by_place_and_by_name(self):
        for module, name, function in self.functions():
            for call in calls_of(module, name)[::7]:
                by_place = outcome(function, *call.values())
                backwards = {argument: call[argument] for argument in reversed(list(call))}
                self.assertExact(outcome(function, **call), by_place)
                self.assertExact(outcome(function, **backwards), by_place)
                first = list(call)[0]
                rest = {argument: call[argument] for argument in list(call)[1:]}
                self.assertExact(outcome(function, call[first], **rest), by_place)

    def test_equal_calls(self):
        # What one call learns must not show in another one: so all are done once more, backwards.
        for module, name, function in self.functions():
            calls = calls_of(module, name)
            told = [outcome(function, *call.values()) for call in calls]
            again = [outcome(function, *copy.deepcopy(list(call.values()))) for call in calls[::-1]][::-1]
            self.assertExact(again, told, name)

    def test_arguments_stay_as_they_are(self):
        for module, name, function in self.functions():
            for call in calls_of(module, name):
                self.assertLeavesAsItIs(function, *call.values())

    def test_only_tuples_are_returned(self):
        for module, name, function in self.functions():
            for call in calls_of(module, name):
                told = outcome(function, *call.values())
                if told[0] == "returned":
                    self.check_kinds(told[1], name)

    def check_kinds(self, value, name):
        if name == "board_behind":
            return self.assertIs(type(value), Board)
        self.assertIn(type(value).__name__, ("tuple", "int", "bool", "str", "NoneType"), name)
        if isinstance(value, tuple):
            for item in value:
                self.check_kinds(item, name)

    def test_trees_of_all_sizes_are_let_by(self):
        for module, name, function in self.functions():
            if DEFS[module][name] == ["tree"]:
                for tree in SMALL_TREES[::50] + large_trees() + [HALF]:
                    told = outcome(function, tree)
                    if told[0] == "raised":
                        self.assertIn((name, told[1]), (("least_lots", "TooMany"), ("levels", "NoNest"), ("pair", "NoNest"),
                                                        ("scale_of", "NoNest"), ("shape_of", "NoNest")))


class Classes(Case):

    def classes(self):
        for module, (name, methods, readable) in CLASSES.items():
            yield module, getattr(importlib.import_module("onescale." + module), name), methods, readable

    def test_defined_where_they_are_listed(self):
        for module, found, methods, readable in self.classes():
            self.assertTrue(inspect.isclass(found))
            self.assertEqual([found.__module__, found.__name__], ["onescale." + module, CLASSES[module][0]])
            for name in list(methods) + readable:
                self.assertIn(name, vars(found))

    def test_names_of_arguments(self):
        for _, found, methods, _ in self.classes():
            for name, arguments in methods.items():
                self.assertEqual(list(inspect.signature(vars(found)[name]).parameters)[1:], arguments, name)

    def test_what_can_be_read_is_there_at_once(self):
        for _, found, methods, readable in self.classes():
            made = found(*[5 for _ in methods["__init__"]])
            for name in readable:
                self.assertTrue(hasattr(made, name))
                with self.assertRaises(AttributeError):
                    setattr(made, name, getattr(made, name))

    def test_first_argument_is_told_by_name_too(self):
        for _, found, methods, _ in self.classes():
            for name, arguments in methods.items():
                made = found(*[5 for _ in methods["__init__"]])
                other = found(*[5 for _ in methods["__init__"]])
                if name in ("__init__", "attempt"):
                    continue
                for value in STANDING["value"][:10]:
                    by_name = {argument: value for argument in arguments}
                    self.assertExact(outcome(getattr(made, name), **by_name), outcome(getattr(other, name), *by_name.values()))
