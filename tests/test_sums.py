import copy
import unittest
from fractions import Fraction

from flips.errors import NoTable
from flips.sums import comes_to, is_sum, squares, sum_of, told
from tests.helper import FORTY, all_tables, dice, draw_plain, draw_sum, draw_table, fraction_at, frozen, \
    other_plain_things, sign_at, slow_sum, spoiled_sums, value

HEAVIEST = 10 ** 12


def with_term(total, number, term):
    terms = list(total[1])
    terms[number] = term
    return (total[0], tuple(terms))


class WhatIsASum(unittest.TestCase):
    def test_sums_of_tables(self):
        rng = dice("is sum")
        for n in range(1, 7):
            for _ in range(30):
                self.assertIs(is_sum(slow_sum(draw_table(rng, n))), True)

    def test_without_terms(self):
        for n in range(1, 7):
            self.assertIs(is_sum((n, ())), True)

    def test_how_many_switches(self):
        for n in (0, 7, 8, -1, True, False, None, "1", (1,), [1], {}, FORTY, -FORTY):
            self.assertIs(is_sum((n, ())), False)
            self.assertIs(is_sum((n, ((0, 1),))), False)

    def test_weights(self):
        for n in range(1, 7):
            for weight in (1, -1, 2, HEAVIEST - 1, HEAVIEST, -HEAVIEST, -HEAVIEST + 1):
                self.assertIs(is_sum((n, ((0, weight),))), True)
                self.assertIs(is_sum((n, ((0, 1), (2 ** n - 1, weight)))), True)
            for weight in (0, HEAVIEST + 1, -HEAVIEST - 1, FORTY, -FORTY, True, False, None, "1", (1,), [1], {}):
                self.assertIs(is_sum((n, ((0, weight),))), False)
                self.assertIs(is_sum((n, ((0, 1), (2 ** n - 1, weight)))), False)

    def test_sets(self):
        for n in range(1, 7):
            for subset in range(2 ** n):
                self.assertIs(is_sum((n, ((subset, 5),))), True)
            for subset in (2 ** n, 2 ** n + 1, -1, FORTY, True, False, None, "0", (0,), [0], {}):
                self.assertIs(is_sum((n, ((subset, 5),))), False)
                self.assertIs(is_sum((n, ((0, 3), (subset, 5)))), False)
            self.assertIs(is_sum((n, tuple((subset, 1) for subset in range(2 ** n)))), True)
            self.assertIs(is_sum((n, tuple((subset, 1) for subset in range(2 ** n + 1)))), False)

    def test_sets_that_fall_or_stand_twice(self):
        rng = dice("falling")
        self.assertIs(is_sum((1, ((1, 1), (0, 1)))), False)
        self.assertIs(is_sum((1, ((1, 1), (1, 1)))), False)
        for _ in range(200):
            n = rng.randrange(2, 7)
            sets = sorted(rng.sample(range(2 ** n), rng.randrange(2, 2 ** n)))
            self.assertIs(is_sum((n, tuple((subset, -7) for subset in sets))), True)
            number = rng.randrange(len(sets) - 1)
            falling = list(sets)
            falling[number], falling[number + 1] = sets[number + 1], sets[number]
            self.assertIs(is_sum((n, tuple((subset, -7) for subset in falling))), False)
            twice = sets[:number] + [sets[number]] + sets[number:]
            self.assertIs(is_sum((n, tuple((subset, -7) for subset in twice))), False)

    def test_lists_for_tuples(self):
        total = (2, ((0, 2), (1, -2), (3, 2)))
        self.assertIs(is_sum(total), True)
        self.assertIs(is_sum(list(total)), False)
        self.assertIs(is_sum((2, list(total[1]))), False)
        self.assertIs(is_sum((2, [])), False)
        for number in range(3):
            self.assertIs(is_sum(with_term(total, number, list(total[1][number]))), False)

    def test_a_thing_more_or_fewer(self):
        total = (2, ((0, 2), (1, -2), (3, 2)))
        for thing in ((), (2,), (total[1],), total + (0,), total + ((),), (2,) + total, (total[1], 2)):
            self.assertIs(is_sum(thing), False)
        for number in range(3):
            subset, weight = total[1][number]
            for term in ((), (subset,), (subset, weight, 0), (subset, weight, weight)):
                self.assertIs(is_sum(with_term(total, number, term)), False)

    def test_other_plain_things(self):
        rng = dice("no sums")
        for thing in other_plain_things():
            self.assertIs(is_sum(thing), False)
            self.assertIs(is_sum((3, thing)), type(thing) is tuple and thing in ((), ((0, 1),)))
            self.assertIs(is_sum((3, (thing,))), False)
            self.assertIs(is_sum((3, ((0, thing),))), type(thing) is int and thing == -1)
            self.assertIs(is_sum((3, ((thing, 1),))), False)
            self.assertIs(is_sum((thing, ())), False)
        for _ in range(1000):
            self.assertIs(is_sum([draw_plain(rng)]), False)
            self.assertIs(is_sum((draw_plain(rng), draw_plain(rng), draw_plain(rng))), False)
        self.assertIs(is_sum((6, ((0, 1),) * 100000)), False)

    def test_what_could_be_changed_is_as_it_was(self):
        rng = dice("unchanged sums")
        things = [[2, ((0, 1),)], (2, [(0, 1), (1, 1)]), (2, ([0, 1],)), (2, ((0, [1]),)), {2: ()}]
        things += [draw_plain(rng) for _ in range(200)]
        for thing in things:
            ahead = frozen(copy.deepcopy(thing))
            is_sum(thing)
            is_sum((2, thing))
            self.assertEqual(frozen(thing), ahead)


class SumsOfTables(unittest.TestCase):
    def look_at(self, table):
        total = sum_of(table)
        self.assertEqual(frozen(total), frozen(slow_sum(table)))
        self.assertIs(is_sum(total), True)
        self.assertEqual(frozen(sum_of(table)), frozen(total))
        self.assertEqual(frozen(told(total)), frozen(table))
        self.assertEqual(frozen(squares(total)), ("int", 4 ** total[0]))
        for place, answer in enumerate(table):
            self.assertEqual(frozen(comes_to(total, place)), frozen((value(answer), 1)))

    def test_by_hand(self):
        self.assertEqual(sum_of((False, True)), (1, ((1, 2),)))
        self.assertEqual(sum_of((True, False)), (1, ((1, -2),)))
        self.assertEqual(sum_of((False, False)), (1, ((0, 2),)))
        self.assertEqual(sum_of((True, True, True, True)), (2, ((0, -4),)))
        self.assertEqual(sum_of((False, False, False, True)), (2, ((0, 2), (1, 2), (2, 2), (3, -2))))

    def test_all_tables_of_one_two_and_three_switches(self):
        sums = []
        for n in (1, 2, 3):
            for table in all_tables(n):
                self.look_at(table)
                sums.append(sum_of(table))
        self.assertEqual(len(set(sums)), 4 + 16 + 256)

    def test_drawn_tables(self):
        rng = dice("drawn tables")
        for n in range(3, 7):
            self.look_at((True,) * 2 ** n)
            self.look_at((False,) * 2 ** n)
            for _ in range(25):
                self.look_at(draw_table(rng, n))
            for place in range(2 ** n):
                self.look_at(tuple(place == other for other in range(2 ** n)))


class AnySums(unittest.TestCase):
    def test_what_a_sum_comes_to(self):
        rng = dice("comes to")
        below = 0
        for _ in range(400):
            total = draw_sum(rng, rng.randrange(1, 7))
            for place in range(2 ** total[0]):
                worth = fraction_at(total, place)
                share = comes_to(total, place)
                self.assertEqual(frozen(share), frozen((worth.numerator, worth.denominator)))
                below += share[0] < 0
        self.assertGreater(below, 100)

    def test_what_a_sum_comes_to_by_hand(self):
        self.assertEqual(comes_to((1, ()), 0), (0, 1))
        self.assertEqual(comes_to((1, ((0, 1),)), 1), (1, 2))
        self.assertEqual(comes_to((1, ((1, 1),)), 1), (-1, 2))
        self.assertEqual(comes_to((2, ((0, 3), (3, 3))), 0), (3, 2))
        self.assertEqual(comes_to((2, ((0, 3), (3, 3))), 1), (0, 1))
        self.assertEqual(comes_to((6, ((63, HEAVIEST),)), 1), (-HEAVIEST // 64, 1))

    def test_squares(self):
        rng = dice("squares")
        self.assertEqual(frozen(squares((4, ()))), ("int", 0))
        self.assertEqual(squares((6, ((0, HEAVIEST), (9, -HEAVIEST)))), 2 * 10 ** 24)
        for _ in range(300):
            total = draw_sum(rng, rng.randrange(1, 7))
            self.assertEqual(frozen(squares(total)), ("int", sum(weight ** 2 for _, weight in total[1])))

    def look_at_told(self, total):
        worths = [fraction_at(total, place) for place in range(2 ** total[0])]
        if all(worth in (1, -1) for worth in worths):
            self.assertEqual(frozen(told(total)), frozen(tuple(worth == Fraction(-1) for worth in worths)))
            return True
        with self.assertRaises(NoTable) as taken:
            told(total)
        self.assertIs(type(taken.exception), NoTable)
        return False

    def test_sums_that_tell_no_table(self):
        for n in range(1, 7):
            self.assertFalse(self.look_at_told((n, ())))
            for weight in (1, -1, 2 ** n - 1, 2 ** n + 1, 2 ** (n + 1), -(2 ** n) - 1, HEAVIEST):
                self.assertEqual(self.look_at_told((n, ((0, weight),))), abs(weight) == 2 ** n)

    def test_told_of_spoiled_sums(self):
        rng = dice("spoiled")
        found = {True: 0, False: 0}
        for _ in range(150):
            for total in spoiled_sums(rng, slow_sum(draw_table(rng, rng.randrange(1, 7)))):
                self.assertIs(is_sum(total), True)
                found[self.look_at_told(total)] += 1
        self.assertGreater(min(found.values()), 10)

    def test_told_of_all_small_sums_of_one_switch(self):
        for one in range(-4, 5):
            for other in range(-4, 5):
                terms = tuple((subset, weight) for subset, weight in ((0, one), (1, other)) if weight)
                self.look_at_told((1, terms))

    def test_told_where_one_place_alone_is_wrong(self):
        for n in range(1, 7):
            for place in range(2 ** n):
                weights = [2 * sign_at(subset, place) for subset in range(2 ** n)]
                weights[0] += 2 ** n
                total = (n, tuple(enumerate(weights)))
                self.assertEqual([other for other in range(2 ** n) if fraction_at(total, other) != 1], [place])
                self.assertFalse(self.look_at_told(total))


if __name__ == "__main__":
    unittest.main()
