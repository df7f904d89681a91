import copy
import unittest

from flips.places import is_place, is_table, many_in, sign, switches_of, within
from tests.helper import FORTY, dice, draw_plain, draw_table, frozen, is_on, other_plain_things, sign_at, switches_in


class Places(unittest.TestCase):
    def test_is_place_at_the_edges(self):
        for n in range(1, 7):
            for place in range(2 ** n):
                self.assertIs(is_place(n, place), True)
            for thing in (-1, -(2 ** n), 2 ** n, 2 ** n + 1, FORTY, -FORTY, 10 ** 39):
                self.assertIs(is_place(n, thing), False)

    def test_is_place_of_other_kinds(self):
        things = [True, False, None, "", "0", "1", [], [0], [1], (), (0,), (1,), {}, {0: 1}, {"0": 0}]
        for n in range(1, 7):
            for thing in things + other_plain_things():
                self.assertIs(is_place(n, thing), False)

    def test_is_place_of_drawn_things(self):
        rng = dice("places")
        for _ in range(2000):
            n = rng.randrange(1, 7)
            thing = draw_plain(rng)
            self.assertIs(is_place(n, thing), type(thing) is int and 0 <= thing <= 2 ** n - 1)


class Tables(unittest.TestCase):
    def test_tables_of_each_length(self):
        rng = dice("tables")
        for n in range(1, 7):
            for table in [(True,) * 2 ** n, (False,) * 2 ** n] + [draw_table(rng, n) for _ in range(20)]:
                self.assertIs(is_table(table), True)
                self.assertEqual(frozen(switches_of(table)), ("int", n))

    def test_other_lengths(self):
        for length in [0, 1, 3, 5, 6, 7, 15, 17, 31, 33, 62, 63, 65, 66, 127, 128, 256, 4096]:
            for answer in (True, False):
                self.assertIs(is_table((answer,) * length), False)

    def test_a_list_of_truths_is_none(self):
        for n in range(1, 7):
            self.assertIs(is_table([True] * 2 ** n), False)

    def test_one_thing_of_another_kind_at_any_place(self):
        rng = dice("one thing")
        for n in range(1, 7):
            for place in range(2 ** n):
                for thing in (0, 1, None, "", "True", (), (True,), [True], {}):
                    answers = list(draw_table(rng, n))
                    answers[place] = thing
                    self.assertIs(is_table(tuple(answers)), False)

    def test_other_plain_things(self):
        rng = dice("no tables")
        for thing in other_plain_things():
            self.assertIs(is_table(thing), False)
        for _ in range(2000):
            thing = draw_plain(rng)
            truths = type(thing) is tuple and all(type(part) is bool for part in thing)
            self.assertIs(is_table(thing), truths and len(thing) in (2, 4, 8, 16, 32, 64))


class Sets(unittest.TestCase):
    def test_sign_of_all_pairs(self):
        for subset in range(64):
            for place in range(64):
                self.assertEqual(frozen(sign(subset, place)), ("int", sign_at(subset, place)))

    def test_sign_by_hand(self):
        for place in range(64):
            self.assertEqual(sign(0, place), 1)
        self.assertEqual(sign(63, 63), 1)
        self.assertEqual(sign(31, 63), -1)
        self.assertEqual(sign(5, 4), -1)
        self.assertEqual(sign(5, 5), 1)
        self.assertEqual(sign(5, 2), 1)

    def test_within_of_all_pairs(self):
        for subset in range(64):
            for other in range(64):
                expected = all(is_on(other, switch) for switch in switches_in(subset))
                self.assertIs(within(subset, other), expected)

    def test_within_by_hand(self):
        self.assertIs(within(0, 0), True)
        self.assertIs(within(0, 63), True)
        self.assertIs(within(63, 0), False)
        self.assertIs(within(5, 7), True)
        self.assertIs(within(7, 5), False)
        self.assertIs(within(5, 10), False)

    def test_many_in(self):
        for subset in range(64):
            self.assertEqual(frozen(many_in(subset)), ("int", len(switches_in(subset))))
        self.assertEqual([many_in(0), many_in(1), many_in(32), many_in(62), many_in(63)], [0, 1, 1, 5, 6])


class Unchanged(unittest.TestCase):
    def test_what_could_be_changed_is_as_it_was(self):
        rng = dice("unchanged")
        things = [thing for thing in other_plain_things() if isinstance(thing, (list, dict))]
        things += [draw_plain(rng) for _ in range(300)]
        things += [([True], [False]), [[True, False]], ({0: True}, {1: [False]})]
        for thing in things:
            ahead = frozen(copy.deepcopy(thing))
            is_place(3, thing)
            is_table(thing)
            self.assertEqual(frozen(thing), ahead)


if __name__ == "__main__":
    unittest.main()
