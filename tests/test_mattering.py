import unittest
from fractions import Fraction

from flips.mattering import altogether, hangs_on, levels, matters
from flips.walked import matters_at
from tests.helper import as_share, dice, frozen, hanging, is_on, odd_table, slow_sum, small_and_various_tables, \
    switches_in, table_on, table_with, various_tables


def turned_at(place, subset):
    """The place with all switches of the set turned, switch by switch."""
    for switch in switches_in(subset):
        place = place - 2 ** switch if is_on(place, switch) else place + 2 ** switch
    return place


def slow_places(table, subset):
    return [place for place in range(len(table)) if table[place] is not table[turned_at(place, subset)]]


class Mattering(unittest.TestCase):
    def look_at(self, table, subset):
        total = slow_sum(table)
        places = slow_places(table, subset)
        self.assertEqual(frozen(matters_at(table, subset)), frozen(places))
        self.assertEqual(frozen(matters(total, subset)), frozen(as_share(Fraction(len(places), len(table)))))
        self.assertEqual(total, slow_sum(table))

    def test_by_hand(self):
        both = (False, False, False, True)
        total = (2, ((0, 2), (1, 2), (2, 2), (3, -2)))
        self.assertEqual(frozen(matters_at(both, 0)), frozen([]))
        self.assertEqual(frozen(matters_at(both, 1)), frozen([2, 3]))
        self.assertEqual(frozen(matters_at(both, 2)), frozen([1, 3]))
        self.assertEqual(frozen(matters_at(both, 3)), frozen([0, 3]))
        self.assertEqual(frozen(matters(total, 0)), frozen((0, 1)))
        self.assertEqual(frozen([matters(total, subset) for subset in (1, 2, 3)]), frozen([(1, 2)] * 3))

    def test_small_and_various_tables_and_all_sets(self):
        for table in small_and_various_tables(dice("mattering"), 2):
            for subset in range(len(table)):
                self.look_at(table, subset)

    def test_the_empty_set_matters_nowhere(self):
        rng = dice("empty set")
        for n in range(1, 7):
            for table in various_tables(rng, n):
                self.assertEqual(frozen(matters_at(table, 0)), frozen([]))
                self.assertEqual(frozen(matters(slow_sum(table), 0)), frozen((0, 1)))

    def test_of_one_answer_nothing_matters(self):
        for n in range(1, 7):
            for answer in (True, False):
                for subset in range(2 ** n):
                    self.assertEqual(matters_at((answer,) * 2 ** n, subset), [])
                    self.assertEqual(matters(slow_sum((answer,) * 2 ** n), subset), (0, 1))

    def test_odd_tables(self):
        for n in range(1, 7):
            for odd in range(2 ** n):
                total = slow_sum(odd_table(n, odd))
                for subset in range(2 ** n):
                    in_common = len(switches_in(odd & subset))
                    self.assertEqual(matters(total, subset), (in_common % 2, 1))

    def test_a_single_yes(self):
        for n in range(1, 7):
            for place in range(2 ** n):
                table = table_with(n, [place])
                for subset in (1, 2 ** (n - 1), 2 ** n - 1):
                    self.assertEqual(matters_at(table, subset), sorted([place, turned_at(place, subset)]))
                    self.assertEqual(matters(slow_sum(table), subset), as_share(Fraction(2, 2 ** n)))

    def test_a_told_list_is_the_askers_own(self):
        table = (False, False, False, True)
        first = matters_at(table, 1)
        first.append(9)
        self.assertEqual(matters_at(table, 1), [2, 3])


class HangsOn(unittest.TestCase):
    def test_small_and_various_tables(self):
        for table in small_and_various_tables(dice("hangs on"), 10):
            self.assertEqual(frozen(hangs_on(slow_sum(table))), frozen(hanging(table)))

    def test_none_some_and_all(self):
        for n in range(1, 7):
            for answer in (True, False):
                self.assertEqual(frozen(hangs_on(slow_sum((answer,) * 2 ** n))), ("int", 0))
            for subset in range(2 ** n):
                self.assertEqual(hangs_on(slow_sum(odd_table(n, subset))), subset)
                all_on = tuple(place & subset == subset for place in range(2 ** n))
                self.assertEqual(hangs_on(slow_sum(all_on)), subset)
            self.assertEqual(hangs_on(slow_sum(table_with(n, [0]))), 2 ** n - 1)

    def test_never_on_more(self):
        rng = dice("on a set")
        for _ in range(300):
            n = rng.randrange(1, 7)
            subset = rng.randrange(2 ** n)
            self.assertEqual(hangs_on(slow_sum(table_on(rng, n, subset))) & ~subset, 0)


class Levels(unittest.TestCase):
    def look_at(self, table):
        total = slow_sum(table)
        n = total[0]
        told = levels(total)
        self.assertIs(type(told), list)
        by_size = [
            Fraction(sum(weight ** 2 for subset, weight in total[1] if len(switches_in(subset)) == many), 4 ** n)
            for many in range(n + 1)
        ]
        self.assertEqual(frozen(told), frozen([as_share(level) for level in by_size]))
        self.assertEqual(sum(Fraction(*level) for level in told), 1)
        singles = sum(Fraction(len(slow_places(table, 2 ** switch)), 2 ** n) for switch in range(n))
        self.assertEqual(sum(many * Fraction(*level) for many, level in enumerate(told)), singles)
        self.assertEqual(frozen(altogether(total)), frozen(as_share(singles)))
        self.assertEqual(total, slow_sum(table))

    def test_by_hand(self):
        total = (2, ((0, 2), (1, 2), (2, 2), (3, -2)))
        self.assertEqual(frozen(levels(total)), frozen([(1, 4), (1, 2), (1, 4)]))
        self.assertEqual(frozen(altogether(total)), frozen((1, 1)))

    def test_small_and_various_tables(self):
        for table in small_and_various_tables(dice("levels"), 10):
            self.look_at(table)

    def test_one_answer_and_odd(self):
        for n in range(1, 7):
            for answer in (True, False):
                total = slow_sum((answer,) * 2 ** n)
                self.assertEqual(frozen(levels(total)), frozen([(1, 1)] + [(0, 1)] * n))
                self.assertEqual(frozen(altogether(total)), frozen((0, 1)))
            for subset in range(2 ** n):
                many = len(switches_in(subset))
                total = slow_sum(odd_table(n, subset))
                self.assertEqual(levels(total), [(int(level == many), 1) for level in range(n + 1)])
                self.assertEqual(altogether(total), (many, 1))

    def test_a_told_list_is_the_askers_own(self):
        total = (2, ((0, 2), (1, 2), (2, 2), (3, -2)))
        first = levels(total)
        first[0] = (9, 1)
        first.clear()
        self.assertEqual(levels(total), [(1, 4), (1, 2), (1, 4)])
        self.assertEqual(altogether(total), (1, 1))


if __name__ == "__main__":
    unittest.main()
