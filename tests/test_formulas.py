import copy
import unittest

from flips.formulas import is_formula, table_of
from flips.places import is_table
from tests.helper import WORDS, answer_of, depth_of, dice, doubled, draw_formula, draw_plain, frozen, \
    nested, other_plain_things, size_of

YES = ("yes",)
NO = ("no",)
EACH_WORD = [YES, NO, ("at", 0), ("not", YES), ("both", YES, NO), ("either", NO, YES),
             ("odd", ("at", 0), YES), ("most", YES, NO, ("at", 0))]


def nots(many, innermost=YES):
    thing = innermost
    for _ in range(many):
        thing = ("not", thing)
    return thing


def swapped(formula, path, thing):
    """The formula with a thing in the place of the part that the path goes to."""
    if not path:
        return thing
    parts = list(formula)
    parts[path[0]] = swapped(parts[path[0]], path[1:], thing)
    return tuple(parts)


def paths(formula):
    found = [()]
    for number, part in enumerate(formula):
        if isinstance(part, tuple):
            found += [(number,) + path for path in paths(part)]
    return found


def part_at(formula, path):
    return part_at(formula[path[0]], path[1:]) if path else formula


class WhatIsAFormula(unittest.TestCase):
    def none_of_any(self, thing):
        for n in range(1, 7):
            self.assertIs(is_formula(n, thing), False)

    def test_each_word(self):
        for n in range(1, 7):
            for formula in EACH_WORD:
                self.assertIs(is_formula(n, formula), True)

    def test_no_such_word(self):
        for word in ("", "Yes", "NO", "yess", "ye", " yes", "and", "0", "at 0", "x" * 300):
            for parts in ((), (YES,), (YES, YES), (YES, YES, YES), (0,)):
                self.none_of_any((word,) + parts)
        for word in (None, True, 0, ("yes",), ["yes"], {}, ()):
            for parts in ((), (YES,), (YES, YES), (YES, YES, YES), (0,)):
                self.none_of_any((word,) + parts)

    def test_a_thing_too_many_and_too_few(self):
        for word, parts in WORDS.items():
            for many in range(6):
                if word == "at":
                    self.assertIs(is_formula(6, (word,) + (0,) * many), many == 1)
                    self.none_of_any((word,) + (YES,) * many)
                else:
                    self.assertIs(is_formula(6, (word,) + (YES,) * many), many == parts)
        for formula in EACH_WORD:
            for thing in (YES, 0, None, "yes", ()):
                self.none_of_any(formula + (thing,))
                self.none_of_any(("not", formula + (thing,)))

    def test_a_list_for_a_tuple(self):
        rng = dice("lists")
        for formula in EACH_WORD:
            self.none_of_any(list(formula))
        for _ in range(100):
            formula = draw_formula(rng, 6, rng.randrange(2, 21), 8)
            for path in paths(formula):
                self.none_of_any(swapped(formula, path, list(part_at(formula, path))))

    def test_switches(self):
        for n in range(1, 7):
            for switch in range(-2, 9):
                for formula in (("at", switch), ("most", YES, ("not", ("at", switch)), NO)):
                    self.assertIs(is_formula(n, formula), 0 <= switch < n)
        for thing in (True, False, None, "0", "", (0,), [0], {}, YES, 10 ** 39, -(10 ** 39)):
            self.none_of_any(("at", thing))
            self.none_of_any(("odd", YES, ("at", thing)))

    def test_twenty_in_all_and_twenty_one(self):
        rng = dice("twenty")
        for n in range(1, 7):
            for many, expected in ((19, True), (20, True), (21, False), (22, False)):
                for _ in range(30):
                    formula = draw_formula(rng, n, many, 8)
                    self.assertEqual(size_of(formula), many)
                    self.assertIs(is_formula(n, formula), expected)

    def test_parts_that_stand_twice_count_twice(self):
        nine = draw_formula(dice("nine"), 6, 9, 6)
        ten = draw_formula(dice("ten"), 6, 10, 6)
        self.assertIs(is_formula(6, ("both", nine, nine)), True)
        self.assertIs(is_formula(6, ("both", ten, ten)), False)
        for deep in range(1, 60):
            self.assertIs(is_formula(6, doubled(deep)), deep <= 3)

    def test_eight_within_one_another_and_nine(self):
        rng = dice("eight")
        for n in range(1, 7):
            for many in range(7):
                self.assertIs(is_formula(n, nots(many)), True)
                self.assertIs(is_formula(n, nots(many, ("at", n - 1))), True)
            self.assertIs(is_formula(n, nots(7, ("at", n - 1))), True)
            for many in (8, 9, 18, 19, 20, 59):
                self.assertIs(is_formula(n, nots(many)), False)
                self.assertIs(is_formula(n, nots(many, ("at", 0))), False)
            for _ in range(20):
                inner = draw_formula(rng, n, 8, 3)
                deep = depth_of(inner)
                self.assertIs(is_formula(n, nots(8 - deep, inner)), True)
                self.assertIs(is_formula(n, nots(9 - deep, inner)), False)
                self.assertIs(is_formula(n, ("most", NO, YES, nots(7 - deep, inner))), True)
                self.assertIs(is_formula(n, ("most", NO, YES, nots(8 - deep, inner))), False)

    def test_drawn_formulas_and_one_wrong_thing_within(self):
        rng = dice("drawn")
        for _ in range(300):
            n = rng.randrange(1, 7)
            formula = draw_formula(rng, n, rng.randrange(1, 21), 8)
            self.assertIs(is_formula(n, formula), True)
            self.assertIs(is_formula(6, formula), True)
            wrong = rng.choice([None, True, 0, "yes", (), [], {}, ("at", n), ("at", -1), ("nor",)])
            self.assertIs(is_formula(n, swapped(formula, rng.choice(paths(formula)), wrong)), False)

    def test_any_other_plain_thing(self):
        rng = dice("plain")
        for thing in other_plain_things():
            self.none_of_any(thing)
            self.none_of_any(("not", thing))
            self.none_of_any(("at", thing))
        for deep in range(1, 60):
            for kind in ("list", "tuple", "dict"):
                self.none_of_any(nested(kind, deep, YES))
                self.none_of_any(("both", YES, nested(kind, deep, YES)))
        for _ in range(500):
            self.none_of_any([draw_plain(rng)])
        self.none_of_any(("most",) + (YES,) * 100000)

    def test_what_could_be_changed_is_as_it_was(self):
        rng = dice("as it was")
        things = [["yes"], ["both", ["yes"], ("no",)], ("not", ["at", 0]), ("at", [0]), ("not", {"at": 0})]
        things += [draw_plain(rng) for _ in range(200)] + [nested("list", 59, 1), nested("dict", 59, 1)]
        for thing in things:
            ahead = frozen(copy.deepcopy(thing))
            is_formula(3, thing)
            is_formula(3, ("not", thing))
            self.assertEqual(frozen(thing), ahead)


class Tables(unittest.TestCase):
    def look_at(self, n, formula):
        table = table_of(n, formula)
        self.assertIs(is_table(table), True)
        self.assertEqual(frozen(table), frozen(tuple(answer_of(formula, place) for place in range(2 ** n))))

    def test_by_hand(self):
        self.assertEqual(table_of(1, YES), (True, True))
        self.assertEqual(table_of(1, NO), (False, False))
        self.assertEqual(table_of(2, ("at", 0)), (False, True, False, True))
        self.assertEqual(table_of(2, ("at", 1)), (False, False, True, True))
        self.assertEqual(table_of(1, ("not", ("at", 0))), (True, False))
        one, other = ("at", 0), ("at", 1)
        self.assertEqual(table_of(2, ("both", one, other)), (False, False, False, True))
        self.assertEqual(table_of(2, ("either", one, other)), (False, True, True, True))
        self.assertEqual(table_of(2, ("odd", one, other)), (False, True, True, False))
        self.assertEqual(table_of(3, ("most", one, other, ("at", 2))),
                         (False, False, False, True, False, True, True, True))

    def test_each_word_by_all_places(self):
        for n in range(1, 7):
            for formula in EACH_WORD:
                self.look_at(n, formula)
            leaves = [YES, NO, ("at", 0), ("at", n - 1), ("at", n // 2)]
            for one in leaves:
                self.look_at(n, one)
                self.look_at(n, ("not", one))
                for other in leaves:
                    for word in ("both", "either", "odd"):
                        self.look_at(n, (word, one, other))
                    for third in leaves:
                        self.look_at(n, ("most", one, other, third))

    def test_each_switch(self):
        for n in range(1, 7):
            for switch in range(n):
                self.look_at(n, ("at", switch))

    def test_formulas_of_many_words_at_the_edges(self):
        rng = dice("edges")
        for n in range(1, 7):
            self.look_at(n, nots(7, ("at", n - 1)))
            for _ in range(25):
                self.look_at(n, draw_formula(rng, n, 20, 8))
                self.look_at(n, draw_formula(rng, n, 20, 4))
                self.look_at(n, draw_formula(rng, n, rng.randrange(1, 20), 8))
                self.look_at(n, nots(4, draw_formula(rng, n, 16, 4)))

    def test_a_formula_of_fewer_switches(self):
        formula = ("either", ("at", 0), ("not", ("at", 1)))
        for n in range(2, 7):
            self.look_at(n, formula)


if __name__ == "__main__":
    unittest.main()
