import unittest

from flips.nearest import best_on, nearest
from tests.helper import all_tables, dice, differing, draw_table, frozen, hanging, odd_table, sets_with, slow_best, \
    slow_nearest, slow_sum, small_and_various_tables, switches_in, various_tables


class BestOn(unittest.TestCase):
    def look_at(self, table, subset):
        total = slow_sum(table)
        found = best_on(total, subset)
        self.assertEqual(frozen(found), frozen(slow_best(table, subset)))
        self.assertEqual(hanging(found[0]) & ~subset, 0)
        self.assertEqual(found[1], differing(table, found[0]))
        self.assertEqual(total, slow_sum(table))

    def test_by_hand(self):
        both = (2, ((0, 2), (1, 2), (2, 2), (3, -2)))
        self.assertEqual(frozen(best_on(both, 0)), frozen(((False,) * 4, 1)))
        self.assertEqual(frozen(best_on(both, 1)), frozen(((False,) * 4, 1)))
        self.assertEqual(frozen(best_on(both, 3)), frozen(((False, False, False, True), 0)))

    def test_small_and_various_tables_and_all_sets(self):
        for table in small_and_various_tables(dice("best on"), 2):
            for subset in range(len(table)):
                self.look_at(table, subset)

    def test_no_table_on_the_set_is_better(self):
        for table in all_tables(3):
            total = slow_sum(table)
            for subset in range(8):
                on_set = [other for other in ALL_OF_THREE if other[1] & ~subset == 0]
                self.assertEqual(best_on(total, subset)[1], min(differing(table, other[0]) for other in on_set))

    def test_as_many_yes_as_no_say_no(self):
        for n in range(1, 7):
            for odd in range(1, 2 ** n):
                total = slow_sum(odd_table(n, odd))
                for subset in range(2 ** n):
                    if odd & ~subset:
                        self.assertEqual(best_on(total, subset), ((False,) * 2 ** n, 2 ** (n - 1)))
        # At the setting with switch 0 off as many say yes as no, at the other one all say yes.
        self.assertEqual(best_on(slow_sum((True, True, False, True)), 1), ((False, True, False, True), 1))

    def test_the_empty_set_and_all_switches(self):
        rng = dice("edges of best")
        for n in range(1, 7):
            for table in various_tables(rng, n):
                yeses = sum(table)
                more = yeses > 2 ** n - yeses
                self.assertEqual(best_on(slow_sum(table), 0), ((more,) * 2 ** n, min(yeses, 2 ** n - yeses)))
                self.assertEqual(frozen(best_on(slow_sum(table), 2 ** n - 1)), frozen((table, 0)))


class Nearest(unittest.TestCase):
    def look_at(self, table, k):
        total = slow_sum(table)
        self.assertEqual(frozen(nearest(total, k)), frozen(slow_nearest(table, k)))
        self.assertEqual(total, slow_sum(table))

    def test_small_and_various_tables(self):
        for table in small_and_various_tables(dice("nearest"), 5):
            for k in range(7):
                self.look_at(table, k)

    def test_no_table_of_so_few_switches_is_nearer(self):
        for table in all_tables(3):
            total = slow_sum(table)
            for k in range(7):
                few = [other for other in ALL_OF_THREE if len(switches_in(other[1])) <= k]
                self.assertEqual(nearest(total, k)[1], min(differing(table, other[0]) for other in few))

    def test_of_several_sets_the_least_number(self):
        rng = dice("least number")
        seen = 0
        for _ in range(300):
            n = rng.randrange(2, 7)
            k = rng.randrange(1, n)
            table = draw_table(rng, n)
            tables = [slow_best(table, subset) for subset in sets_with(n, k)]
            fewest = min(found[1] for found in tables)
            ties = [found[0] for found in tables if found[1] == fewest]
            seen += len(set(ties)) > 1
            self.assertEqual(nearest(slow_sum(table), k)[0], ties[0])
        self.assertGreater(seen, 20)
        # Yes where two at least of three are on: each single switch is as near as the others.
        self.assertEqual(nearest((3, ((1, 4), (2, 4), (4, 4), (7, -4))), 1), ((False, True) * 4, 2))

    def test_no_more_switches_than_k(self):
        rng = dice("no more")
        for n in range(1, 7):
            for table in various_tables(rng, n):
                for k in range(n, 7):
                    self.assertEqual(frozen(nearest(slow_sum(table), k)), frozen((table, 0)))


ALL_OF_THREE = [(table, hanging(table)) for table in all_tables(3)]


if __name__ == "__main__":
    unittest.main()
