"""What holds for all functions of the interface: where they stand, what they take, and what they leave as it is."""

import copy
import importlib
import inspect

from fewtraps.errors import Refused
from tests.cases import EMPTY, FULL60, RING60, SELF, Case, M
from tests.runs import ECHO, EVERY

# Each function with the names of its arguments.
TAKEN = {
    "maps": {"made_map": "thing", "is_map": "thing", "next_of": "chart lot"},
    "reach": {"comes": "chart a", "ends": "chart a"},
    "pieces": {"piece": "chart a", "pieces": "chart"},
    "cuts": {"cuts": "chart traps lot", "missed": "chart traps lot"},
    "pinches": {"pinch": "chart lot free"},
    "walls": {"wall": "chart lot", "near": "chart lot", "far": "chart lot"},
    "ways": {"share": "chart lot free"},
    "standings": {"made_standing": "chart thing", "is_standing": "chart thing", "row_of": "chart standing",
                  "members": "chart standing", "is_later": "chart one two", "later_rows": "chart standing"},
    "bounds": {"bound": "chart k standing", "lay": "chart k standing", "curve": "chart standing"},
    "enough": {"enough": "chart standing", "widest": "chart standing", "endless": "chart k standing"},
    "books": {"book": "chart k standing", "floor": "chart k standing"},
    "kernel": {"ways_right": "chart lot free thing", "endless_right": "chart k standing thing",
               "book_right": "chart k standing thing", "floor_right": "chart k standing thing",
               "unsafe_right": "chart k a thing"},
    "never": {"rounds": "chart k", "safe": "chart k a", "safe_lay": "chart k a", "unsafe": "chart k a"},
    "own": {"own_bound": "chart k standing", "own_lays": "chart k standing"},
    "edits": {"with_road": "chart a b", "without_road": "chart a b", "with_wish": "chart a", "without_wish": "chart a"},
    "plays": {"referee": "chart k standing play", "most_idle": "events"},
    "wardens": {"made_warden": "chart k thing", "is_warden": "chart k thing", "plan_warden": "chart k n",
                "beaten": "chart k standing warden j"},
    "programs": {"made_program": "thing", "is_program": "thing", "roads_of": "program", "map_of": "program wished",
                 "writes": "program c"},
    "words": {"is_name": "thing"},
    "readprogram": {"read_program": "text"},
    "printprogram": {"print_program": "program"},
    "maptexts": {"read_map": "text", "print_map": "chart"},
    "playtexts": {"read_play": "text", "print_play": "play"},
}

# Each class with the names of its arguments and those of its methods.
CLASSES = {
    "session": {"Session": ("chart k standing", {
        "seen": "", "at": "", "traps": "", "idle": "", "legs": "", "over": "", "play": "", "go": "i b",
        "change": "chart k"})},
    "machine": {"Machine": ("program starts inputs", {
        "at": "", "cells": "", "asked": "", "next_place": "i", "step": "i"})},
    "debugger": {"Debugger": ("program wished k starts inputs", {
        "step": "i", "run": "weave", "at": "", "cells": "", "seen": "", "traps": "", "idle": "", "legs": "", "over": "",
        "play": ""})},
    "desk": {"Desk": ("program k", {
        "wish": "hand place", "strike": "hand place", "undo": "hand", "redo": "hand", "slots": "k", "wished": "",
        "map": "",
        "hands_of": "place", "row": "text"})},
}

# For each class some arguments, and calls of its methods one behind the other, right and wrong ones.
CALLS = {
    "Session": ((M, 2, (0,)), (
        ("traps",), ("go", 0, 1), ("seen",), ("at",), ("change", M, 2), ("go", 0, 2), ("idle",), ("traps",),
        ("go", 1, 4),
        ("go", 0, 4), ("legs",), ("over",), ("play",), ("change", M, 9), ("change", M, 4), ("go", 0, 4), ("play",))),
    "Machine": ((ECHO, (0, 0), ((5, 0), ())), (
        ("step", 0), ("next_place", 1), ("step", 1), ("cells",), ("step", 2), ("asked",), ("step", 0), ("at",),
        ("next_place", True))),
    "Debugger": ((ECHO, (3,), 1, (0,), ((5, 0),)), (
        ("traps",), ("run", (0, 0, 0, 0, 0)), ("seen",), ("at",), ("cells",), ("step", 0), ("step", 1), ("run", (0, 1)),
        ("run", (0, 0)), ("idle",), ("legs",), ("over",), ("play",))),
    "Desk": ((ECHO, 1), (
        ("wish", "ann", 3), ("wish", "ann", 3), ("strike", "bob", 3), ("wished",), ("strike", "ann", 3),
        ("undo", "ann"),
        ("map",), ("redo", "ann"), ("redo", "ann"), ("undo", "ann"), ("hands_of", 3), ("hands_of", 9), ("slots", 3),
        ("slots", 9),
        ("row", "curve s"), ("row", "lay s t"), ("row", "wished"))),
}

# The modules of which a function returns texts.
TELLING = ("plays", "wardens", "programs", "readprogram", "printprogram", "maptexts", "playtexts")

CHARTS = (M, SELF, EMPTY, FULL60, RING60, (8, M[1], ()), (8, M[1], tuple(range(8))))
STANDINGS = ((0,), (1, 0), (7, 0, 1), ())
TEXTS = ("", "s: x = ask; go s", "go t", "places 2; roads 1 0, 0 1; wished 1", "lay 3 1; go 0 2", "lay 1 1", "go 0 x",
         "\n")
VALUES = {
    "chart": CHARTS, "k": (0, 2, 4, 9), "standing": STANDINGS, "one": STANDINGS, "two": STANDINGS, "a": (0, 1, 7),
    "b": (0, 4), "lot": ((0,), (0, 7), ()), "traps": ((), (2, 3)), "free": ((), (1, 2), (7,)), "n": (1, 3), "j": (0, 1),
    "warden": ((), (((0,), (1,)), ((0, 1), (2, 3)))), "events": (("idle", "wished", "idle", "idle"), ()),
    "play": ((), (("lay", ()), ("go", 0, 1)), (("lay", (1,)), ("go", 0, 1), ("lay", ()))),
    "text": TEXTS + (5, None),
    "program": (ECHO, EVERY, (("x",), ("",), (("end",),)), ECHO[:2]),
    "wished": ((), (0, 3), (3, 0), (7,)), "c": (0, 1, 2),
    "thing": CHARTS + STANDINGS + (ECHO, EVERY, "x", "go") + (
        (((0,), (2, 3), 1), ((2,), (4, 5), 0), ((3,), (6, 7), 0)), ((0, 1, 2, 4),), ((1,), ((1, 2, 4), (1, 3, 6))),
        ((1, ((1, 2, 4), (1, 3, 6))),), (((0,), (1,)), ((0, 1), (2, 3)))),
}


def outcome(function, *arguments, **named):
    """Return what the function returns, or the error that it raises."""
    try:
        return function(*arguments, **named)
    except Refused as error:
        return (type(error).__name__, error.what)


def choices(names):
    """Return all choices of values for arguments with these names."""
    found = [()]
    for name in names:
        found = [begun + (value,) for begun in found for value in VALUES[name]]
    return found


class TestInterface(Case):
    def each_function(self):
        for module, functions in TAKEN.items():
            for name, names in functions.items():
                yield getattr(importlib.import_module("fewtraps." + module), name), module, names.split()

    def test_each_is_defined_in_its_file(self):
        for function, module, names in self.each_function():
            self.assertEqual(function.__module__, "fewtraps." + module)
            self.takes(function, " ".join(names))

    def takes(self, function, names):
        """Expect a function with arguments of these names, by position or by name, and without default values."""
        self.assertTrue(inspect.isfunction(function))
        parameters = inspect.signature(function).parameters.values()
        self.assertEqual([parameter.name for parameter in parameters], names.split())
        self.assertEqual({parameter.kind for parameter in parameters}, {inspect.Parameter.POSITIONAL_OR_KEYWORD})
        self.assertEqual({parameter.default for parameter in parameters}, {inspect.Parameter.empty})

    def test_each_class_is_defined_in_its_file(self):
        for module, classes in CLASSES.items():
            for name, (names, methods) in classes.items():
                found = getattr(importlib.import_module("fewtraps." + module), name)
                self.assertEqual((found.__module__, found.__bases__), ("fewtraps." + module, (object,)))
                self.takes(vars(found)["__init__"], "self " + names)
                for method, more in methods.items():
                    self.takes(vars(found)[method], "self " + more)

    def test_methods_take_arguments_by_name(self):
        for module, classes in CLASSES.items():
            for name, (names, methods) in classes.items():
                made = getattr(importlib.import_module("fewtraps." + module), name)
                arguments, calls = CALLS[name]
                kept = copy.deepcopy((arguments, calls))
                one = made(*arguments)
                other = made(**dict(reversed(list(zip(names.split(), arguments)))))
                for method, *more in calls:
                    found = outcome(getattr(one, method), *more)
                    backward = dict(reversed(list(zip(methods[method].split(), more))))
                    self.same(outcome(getattr(other, method), **backward), found)
                    self.plain(found, str)
                self.assertEqual({call[0] for call in calls}, set(methods))
                self.same((arguments, calls), kept)

    def test_equal_calls_return_the_same_and_change_nothing(self):
        for function, _, names in self.each_function():
            for arguments in choices(names):
                before = copy.deepcopy(arguments)
                found = outcome(function, *arguments)
                self.same(arguments, before)
                self.assertNotIsInstance(found, (list, dict, set))
                backward = dict(reversed(list(zip(names, arguments))))
                self.same(outcome(function, **backward), found)

    def test_nothing_but_tuples(self):
        for function, module, names in self.each_function():
            for arguments in choices(names):
                try:
                    self.plain(function(*arguments), *[str] if module in TELLING else [])
                except Refused:
                    pass

    def test_judges_raise_nothing(self):
        for function, _, names in self.each_function():
            if function.__name__.startswith("is_") or function.__name__.endswith("_right"):
                for arguments in choices(names):
                    self.assertIs(type(function(*arguments)), bool)
