"""The names of onescale.bounds, and the errors of onescale.errors."""

import inspect

from onescale import bounds, errors
from tests.support import ANY_VALUES, Case

BOUNDS = {
    "MAX_BUTTON": 99, "MAX_BUTTONS": 24, "MAX_DEPTH": 12, "MAX_LOT": 100, "MAX_LOTS": 300, "MAX_ROW": 12,
    "MAX_WEIGHT": 99999, "MAX_SUM": 2000, "MAX_LINES": 12, "MAX_FILL": 2000, "MAX_EVENTS": 100, "MAX_NAMES": 8,
    "MAX_NAME": 8, "MAX_NEST": 30, "MAX_EDITS": 40, "BATCH": 12,
}

KEPT = {
    "BadTree": "error", "BadScale": "error", "BadText": None, "NoPart": "given", "NoButton": "given", "NoName": "given",
    "Taken": "given", "NoNest": "paper", "NoTree": "paper", "NoFilling": "paper", "Unfit": None, "TooMany": "limit",
    "BadBatch": None, "Rejected": "index", "TooManyEdits": None, "NothingToUndo": None, "NothingToRedo": None,
    "NoVersion": "given", "BadLog": "place",
}


class Bounds(Case):

    def test_each_bound(self):
        self.assertExact({name: vars(bounds).get(name) for name in BOUNDS}, BOUNDS)


class Errors(Case):

    def test_all_are_there_and_no_more(self):
        made = [name for name, found in vars(errors).items() if inspect.isclass(found)]
        self.assertEqual(sorted(made), sorted(["TripError"] + list(KEPT)))

    def test_bases(self):
        self.assertEqual(errors.TripError.__bases__, (ValueError,))
        for name in KEPT:
            self.assertEqual(vars(errors)[name].__bases__, (errors.TripError,), name)

    def test_defined_here(self):
        for name in list(KEPT) + ["TripError"]:
            self.assertEqual(vars(errors)[name].__module__, "onescale.errors", name)

    def test_made_by_place_and_by_name(self):
        for name, word in KEPT.items():
            if word is not None:
                for value in ANY_VALUES:
                    by_place = vars(errors)[name](value)
                    by_name = vars(errors)[name](**{word: value})
                    self.assertIs(getattr(by_place, word), value)
                    self.assertIs(getattr(by_name, word), value)
                    self.assertEqual(list(vars(by_place)), [word])

    def test_made_of_nothing(self):
        for name, word in KEPT.items():
            if word is None:
                self.assertEqual(vars(vars(errors)[name]()), {})

    def test_raised_and_caught(self):
        for name, word in KEPT.items():
            error = vars(errors)[name]() if word is None else vars(errors)[name](7)
            with self.assertRaises(errors.TripError):
                raise error
            with self.assertRaises(ValueError):
                raise error
            self.assertIsInstance(str(error), str)
