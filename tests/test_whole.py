"""What holds over the whole program: the interface, what is handed in, what is told, and what is refused."""

import copy
import importlib
import inspect
import unittest

from flips import errors
from flips.asking import Asking
from flips.desk import Desk
from tests.helper import SEVEN, frozen

INTERFACE = {
    "places": {"is_place": 2, "is_table": 1, "switches_of": 1, "sign": 2, "within": 2, "many_in": 1},
    "shares": {"share_of": 2},
    "formulas": {"is_formula": 2, "table_of": 2},
    "formulatexts": {"shown": 1, "read": 2},
    "sums": {"is_sum": 1, "sum_of": 1, "comes_to": 2, "told": 1, "squares": 1},
    "selfsame": {"is_one_squared": 1},
    "deeds": {"turned": 1, "odd": 2, "both": 2, "fixed": 3, "put": 2},
    "formulasums": {"sum_by": 2},
    "mattering": {"matters": 2, "hangs_on": 1, "altogether": 1, "levels": 1},
    "walked": {"matters_at": 2},
    "shaking": {"stays": 2, "once_for": 2},
    "shaken": {"ways": 3, "stays_at": 3},
    "nearest": {"best_on": 2, "nearest": 2},
    "nearpapers": {"near_paper": 2, "fewest_switches": 2},
    "nearchecker": {"lets_near": 3},
    "glances": {"is_glance": 1, "glance_of": 2, "matters_within": 2, "stays_within": 2, "differ_at_least": 2},
    "games": {"is_game": 1, "game_of": 1, "class_game": 1, "left_by": 4, "ends": 1, "fewest_of": 2},
    "trees": {"is_tree": 2, "asked": 3},
    "treechecker": {"lets_tree": 3},
    "hardchecker": {"lets_hard": 3},
    "fewest": {"fewest": 1},
    "asking": {"Asking": 1},
    "desk": {"Desk": 1},
}

BOTH = (2, ((0, 2), (1, 2), (2, 2), (3, -2)))
ODD = (2, ((3, 4),))
TABLE = (False, False, False, True)
FORMULA = ("both", ("at", 0), ("not", ("at", 1)))
GAME = ((0, 0, 0, 1), ((False, True, False, True), (False, False, True, True)))
ENDLESS = ((0, 1, 2), ((True, True, False),))
TREE = ("ask", 0, ("say", 0), ("ask", 1, ("say", 0), ("say", 1)))
HARD = (((0, 1, 2, 3), 2), ((1, 3), 1), ((2, 3), 1))
NEAR = ((False,) * 4, ((1, "whole"), (2, "whole")))
ANYTHING = {"a": [(1, True), {"b": [None, "c"]}], 3: ({}, [])}

CALLS = (
    ("places", "is_place", 2, ANYTHING), ("places", "is_table", [True, False]), ("places", "switches_of", TABLE),
    ("places", "sign", 3, 1), ("places", "within", 1, 3), ("places", "many_in", 3), ("shares", "share_of", 6, -4),
    ("formulas", "is_formula", 2, ["both", ["yes"], ["no"]]), ("formulas", "is_formula", 2, FORMULA),
    ("formulas", "table_of", 2, FORMULA), ("formulatexts", "shown", FORMULA), ("formulatexts", "read", 2, "not at 1"),
    ("sums", "is_sum", [2, []]), ("sums", "is_sum", BOTH), ("sums", "sum_of", TABLE), ("sums", "comes_to", BOTH, 3),
    ("sums", "told", BOTH), ("sums", "squares", BOTH), ("selfsame", "is_one_squared", BOTH),
    ("deeds", "turned", BOTH), ("deeds", "odd", BOTH, ODD), ("deeds", "both", BOTH, ODD),
    ("deeds", "fixed", BOTH, 1, True), ("deeds", "put", BOTH, [ODD, BOTH]), ("formulasums", "sum_by", 2, FORMULA),
    ("mattering", "matters", BOTH, 3), ("mattering", "hangs_on", BOTH), ("mattering", "altogether", BOTH),
    ("mattering", "levels", BOTH), ("walked", "matters_at", TABLE, 3), ("shaking", "stays", BOTH, (1, 4)),
    ("shaking", "once_for", (1, 4), (1, 3)), ("shaken", "ways", 2, 1, (1, 4)), ("shaken", "stays_at", TABLE, 1, (1, 4)),
    ("nearest", "best_on", BOTH, 1), ("nearest", "nearest", BOTH, 1), ("nearpapers", "near_paper", BOTH, 1),
    ("nearpapers", "fewest_switches", BOTH, 0), ("nearchecker", "lets_near", BOTH, 1, NEAR),
    ("nearchecker", "lets_near", BOTH, 1, [list(NEAR[0]), [list(cover) for cover in NEAR[1]]]),
    ("glances", "is_glance", [2, [[0, 1]]]), ("glances", "is_glance", BOTH), ("glances", "glance_of", BOTH, [3, 1, 3]),
    ("glances", "matters_within", BOTH, 1), ("glances", "stays_within", (2, ((3, -2),)), (1, 4)),
    ("glances", "differ_at_least", BOTH, 1), ("games", "is_game", [[0], [[True]]]), ("games", "is_game", GAME),
    ("games", "game_of", TABLE), ("games", "class_game", [TABLE, (True,) * 4]), ("games", "ends", GAME),
    ("games", "left_by", GAME, (0, 1, 3), 1, False), ("games", "fewest_of", GAME, (0, 1, 2, 3)),
    ("trees", "is_tree", GAME, TREE), ("trees", "is_tree", GAME, ["ask", 0, ["say", 0], ["say", 1]]),
    ("trees", "asked", GAME, TREE, 3), ("treechecker", "lets_tree", GAME, 2, TREE),
    ("treechecker", "lets_tree", GAME, 2, list(TREE)), ("hardchecker", "lets_hard", GAME, 2, HARD),
    ("hardchecker", "lets_hard", GAME, 2, [list(entry) for entry in HARD]), ("fewest", "fewest", GAME),
)

REFUSED = (
    ("formulatexts", "read", 2, "both yes"), ("sums", "told", (2, ((0, 1),))),
    ("games", "class_game", [TABLE, (True,) * 4, TABLE]), ("fewest", "fewest", ENDLESS), ("asking", "Asking", ENDLESS),
)


def function_of(module, name):
    return getattr(importlib.import_module("flips." + module), name)


def spoil(thing):
    """Changes whatever of a told thing can be changed."""
    if isinstance(thing, (list, tuple)):
        for part in thing:
            spoil(part)
    if isinstance(thing, dict):
        for part in thing.values():
            spoil(part)
        thing.clear()
    if isinstance(thing, list):
        thing[:] = ["spoiled"]


class Interface(unittest.TestCase):
    def test_every_name_is_there_with_its_arguments(self):
        for module, names in INTERFACE.items():
            for name, many in names.items():
                parameters = inspect.signature(function_of(module, name)).parameters.values()
                needed = [each for each in parameters if each.default is inspect.Parameter.empty]
                self.assertEqual(len(needed), many, name)

    def test_methods(self):
        asking = Asking(GAME)
        for name, many in (("ask", 0), ("say", 2), ("left", 0), ("label", 0), ("most", 0)):
            self.assertEqual(len(inspect.signature(getattr(asking, name)).parameters), many)
        self.assertEqual(len(inspect.signature(Desk(2).say).parameters), 1)


class HandedInAndTold(unittest.TestCase):
    def test_every_function_is_called(self):
        called = {(module, name) for module, name, *handed in CALLS}
        functions = {(module, name) for module, names in INTERFACE.items() for name in names}
        self.assertEqual(functions - called, {("asking", "Asking"), ("desk", "Desk")})

    def test_things_handed_in_stay_as_they_were(self):
        for module, name, *handed in CALLS:
            given = copy.deepcopy(handed)
            function_of(module, name)(*given)
            self.assertEqual(frozen(given), frozen(handed), name)

    def test_what_is_done_to_told_things_changes_nothing_told_later(self):
        for module, name, *handed in CALLS:
            first = function_of(module, name)(*copy.deepcopy(handed))
            kept = frozen(copy.deepcopy(first))
            spoil(first)
            for _ in range(2):
                again = function_of(module, name)(*copy.deepcopy(handed))
                self.assertEqual(frozen(again), kept, name)
                spoil(again)

    def test_what_is_done_to_things_handed_in_changes_nothing_told(self):
        for module, name, *handed in CALLS:
            given = copy.deepcopy(handed)
            told = function_of(module, name)(*given)
            kept = frozen(copy.deepcopy(told))
            spoil(given)
            self.assertEqual(frozen(told), kept, name)

    def test_what_is_done_to_told_things_changes_nothing_handed_in(self):
        for module, name, *handed in CALLS:
            given = copy.deepcopy(handed)
            spoil(function_of(module, name)(*given))
            self.assertEqual(frozen(given), frozen(handed), name)

    def test_refused_things_stay_as_they_were(self):
        for module, name, *handed in REFUSED:
            given = copy.deepcopy(handed)
            with self.assertRaises(errors.FlipError) as taken:
                function_of(module, name)(*given)
            self.assertEqual(type(taken.exception).__bases__, (errors.FlipError,))
            self.assertEqual(frozen(given), frozen(handed), name)


class Refusals(unittest.TestCase):
    def test_no_class_stands_under_another(self):
        own = [thing for thing in vars(errors).values() if inspect.isclass(thing)]
        self.assertEqual(sorted(each.__name__ for each in own), sorted(SEVEN + ("FlipError",)))
        for each in own:
            base = ValueError if each is errors.FlipError else errors.FlipError
            self.assertEqual(each.__bases__, (base,))


class Objects(unittest.TestCase):
    def test_what_an_asking_told_stays(self):
        asking = Asking(GAME)
        told = [asking.left(), asking.ask(), asking.most(), asking.label()]
        asking.say(0, True)
        asking.say(1, True)
        self.assertEqual(frozen(told), frozen([(0, 1, 2, 3), 0, 2, None]))

    def test_functions_asked_meanwhile_change_no_asking(self):
        asking = Asking(GAME)
        asking.say(0, True)
        for module, name, *handed in CALLS:
            function_of(module, name)(*copy.deepcopy(handed))
        self.assertEqual((asking.left(), asking.ask(), asking.most(), asking.label()), ((1, 3), 1, 1, None))

    def test_functions_asked_meanwhile_change_no_desk(self):
        desk = Desk(2)
        for row in ("keep a at 0", "keep b at 1", "find a b"):
            desk.say(row)
        other = Asking(GAME)
        for module, name, *handed in CALLS:
            function_of(module, name)(*copy.deepcopy(handed))
        other.say(0, True)
        self.assertEqual([desk.say(row) for row in ("names", "left", "ask")], ["a b", "a b", "ask 1"])


if __name__ == "__main__":
    unittest.main()
