import unittest
from fractions import Fraction
from math import gcd

from flips.shares import share_of
from tests.helper import FORTY, dice, frozen


class Shares(unittest.TestCase):
    def look_at(self, top, bottom):
        share = share_of(top, bottom)
        worth = Fraction(top, bottom)
        self.assertEqual(frozen(share), frozen((worth.numerator, worth.denominator)))
        self.assertGreaterEqual(share[1], 1)
        self.assertEqual(gcd(share[0], share[1]), 1)
        self.assertEqual(share[0] * bottom, top * share[1])

    def test_by_hand(self):
        self.assertEqual(share_of(2, 4), (1, 2))
        self.assertEqual(share_of(-2, 4), (-1, 2))
        self.assertEqual(share_of(2, -4), (-1, 2))
        self.assertEqual(share_of(-2, -4), (1, 2))
        self.assertEqual(share_of(6, 3), (2, 1))
        self.assertEqual(share_of(3, 6), (1, 2))
        self.assertEqual(share_of(7, 5), (7, 5))

    def test_a_top_of_nothing(self):
        for bottom in (1, -1, 2, -2, 64, FORTY, -FORTY):
            self.assertEqual(frozen(share_of(0, bottom)), frozen((0, 1)))

    def test_all_small_pairs(self):
        for top in range(-40, 41):
            for bottom in list(range(-40, 0)) + list(range(1, 41)):
                self.look_at(top, bottom)

    def test_numbers_of_forty_figures(self):
        rng = dice("forty")
        for _ in range(300):
            top = rng.choice((1, -1)) * rng.randrange(10 ** 39, FORTY + 1)
            bottom = rng.choice((1, -1)) * rng.randrange(10 ** 39, FORTY + 1)
            self.look_at(top, bottom)
            self.look_at(top, rng.choice((1, -1)) * rng.randrange(1, 100))
            common = rng.randrange(2, 10 ** 20)
            self.look_at(top // 10 ** 21 * common, bottom // 10 ** 21 * common)
        self.look_at(FORTY, FORTY)
        self.look_at(FORTY, -FORTY)
        self.look_at(FORTY, FORTY - 1)


if __name__ == "__main__":
    unittest.main()
