import unittest
from fractions import Fraction

from flips.shaking import once_for, stays
from tests.helper import FORTY, all_tables, as_share, dice, frozen, odd_table, shaking_shares, shaking_tops, \
    slow_sum, switches_in, various_tables


def slow_stay(table, share):
    """Through all places and shakings."""
    n = len(table).bit_length() - 1
    top = sum(
        sum(top for turned, top in enumerate(shaking_tops(n, share)) if table[place ^ turned] is answer)
        for place, answer in enumerate(table)
    )
    return Fraction(top, share[1] ** n * 2 ** n)


class Stays(unittest.TestCase):
    def look_at(self, table, share):
        total = slow_sum(table)
        self.assertEqual(frozen(stays(total, share)), frozen(as_share(slow_stay(table, share))))
        self.assertEqual(total, slow_sum(table))

    def test_by_hand(self):
        on, both = (1, ((1, 2),)), (2, ((0, 2), (1, 2), (2, 2), (3, -2)))
        self.assertEqual(frozen(stays(on, (0, 1))), frozen((1, 1)))
        self.assertEqual(frozen(stays(on, (1, 1))), frozen((0, 1)))
        self.assertEqual(frozen(stays(on, (1, 2))), frozen((1, 2)))
        self.assertEqual(frozen(stays(on, (1, 3))), frozen((2, 3)))
        self.assertEqual(frozen(stays(both, (1, 2))), frozen((5, 8)))
        self.assertEqual(frozen(stays(both, (1, 1))), frozen((1, 2)))

    def test_all_small_tables(self):
        rng = dice("small stays")
        for n in (1, 2, 3):
            for table in all_tables(n):
                for share in rng.sample(shaking_shares(rng), 3) + [(0, 1), (1, 1), (1, 2)]:
                    self.look_at(table, share)

    def test_various_tables_and_shares(self):
        rng = dice("stays")
        for n in range(1, 7):
            for table in various_tables(rng, n, 1):
                for share in shaking_shares(rng):
                    self.look_at(table, share)

    def test_of_one_answer_all_stays(self):
        rng = dice("all stays")
        for n in range(1, 7):
            for answer in (True, False):
                for share in shaking_shares(rng):
                    self.assertEqual(frozen(stays(slow_sum((answer,) * 2 ** n), share)), frozen((1, 1)))

    def test_with_nothing_turned_all_stays(self):
        rng = dice("nothing turned")
        for n in range(1, 7):
            for table in various_tables(rng, n):
                self.assertEqual(frozen(stays(slow_sum(table), (0, 1))), frozen((1, 1)))

    def test_odd_with_all_turned(self):
        for n in range(1, 7):
            for subset in range(2 ** n):
                many = len(switches_in(subset))
                self.assertEqual(stays(slow_sum(odd_table(n, subset)), (1, 1)), (1 - many % 2, 1))

    def test_a_half_leaves_the_first_level_alone(self):
        rng = dice("a half")
        for n in range(1, 7):
            for table in various_tables(rng, n):
                mean = Fraction(2 ** n - 2 * sum(table), 2 ** n)
                self.assertEqual(stays(slow_sum(table), (1, 2)), as_share((1 + mean ** 2) / 2))


class OnceFor(unittest.TestCase):
    def look_at(self, one, other):
        first, second = Fraction(*one), Fraction(*other)
        expected = as_share(first * (1 - second) + second * (1 - first))
        self.assertEqual(frozen(once_for(one, other)), frozen(expected))
        self.assertEqual(frozen(once_for(other, one)), frozen(expected))

    def test_by_hand(self):
        self.assertEqual(frozen(once_for((0, 1), (0, 1))), frozen((0, 1)))
        self.assertEqual(frozen(once_for((1, 1), (1, 1))), frozen((0, 1)))
        self.assertEqual(frozen(once_for((1, 1), (0, 1))), frozen((1, 1)))
        self.assertEqual(frozen(once_for((1, 3), (1, 3))), frozen((4, 9)))
        self.assertEqual(frozen(once_for((1, 4), (1, 2))), frozen((1, 2)))

    def test_all_pairs(self):
        rng = dice("once")
        shares = shaking_shares(rng) + [(1, 6), (5, 6), (1, FORTY - 1)]
        for one in shares:
            for other in shares:
                self.look_at(one, other)

    def test_edges(self):
        rng = dice("edges")
        for share in shaking_shares(rng):
            self.assertEqual(once_for(share, (0, 1)), share)
            self.assertEqual(once_for((0, 1), share), share)
            self.assertEqual(once_for(share, (1, 2)), (1, 2))
            self.assertEqual(once_for((1, 2), share), (1, 2))
            self.assertEqual(once_for(share, (1, 1)), (share[1] - share[0], share[1]))

    def test_shaken_twice_is_shaken_once(self):
        """A single switch stays with the share that it is turned in both shakings, or in none."""
        rng = dice("twice")
        on = (1, ((1, 2),))
        for one in shaking_shares(rng):
            for other in shaking_shares(rng):
                kept = Fraction(*one) * Fraction(*other) + (1 - Fraction(*one)) * (1 - Fraction(*other))
                self.assertEqual(stays(on, once_for(one, other)), as_share(kept))


if __name__ == "__main__":
    unittest.main()
