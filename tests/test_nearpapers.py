import unittest

from flips.nearchecker import lets_near
from flips.nearpapers import fewest_switches, near_paper
from tests.helper import all_tables, dice, differing, draw_table, frozen, odd_table, slow_nearest, slow_sum, \
    small_and_various_tables, various_tables


class NearPapers(unittest.TestCase):
    def look_at(self, table, k):
        total = slow_sum(table)
        paper = near_paper(total, k)
        self.assertIs(type(paper), tuple)
        self.assertEqual(frozen(paper[0]), frozen(slow_nearest(table, k)[0]))
        self.assertIs(lets_near(total, k, paper), True)
        self.assertEqual(total, slow_sum(table))

    def test_small_and_various_tables(self):
        for table in small_and_various_tables(dice("near papers"), 5):
            for k in range(7):
                self.look_at(table, k)


class FewestSwitches(unittest.TestCase):
    def look_at(self, table, most):
        total = slow_sum(table)
        n = total[0]
        told = fewest_switches(total, most)
        least = min(k for k in range(n + 1) if slow_nearest(table, k)[1] <= most)
        self.assertEqual(frozen(told[:2]), frozen((least, slow_nearest(table, least)[0])))
        self.assertEqual(len(told), 3)
        if least == 0:
            self.assertIs(told[2], None)
        else:
            self.assertIs(lets_near(total, least - 1, told[2]), True)
            self.assertGreater(differing(table, told[2][0]), most)
        self.assertEqual(total, slow_sum(table))

    def test_by_hand(self):
        both = (2, ((0, 2), (1, 2), (2, 2), (3, -2)))
        self.assertEqual(frozen(fewest_switches(both, 1)), frozen((0, (False,) * 4, None)))
        self.assertEqual(frozen(fewest_switches(both, 4)), frozen((0, (False,) * 4, None)))
        told = fewest_switches(both, 0)
        self.assertEqual(frozen(told[:2]), frozen((2, (False, False, False, True))))
        self.assertEqual(told[2][0], (False,) * 4)
        self.assertIs(lets_near(both, 1, told[2]), True)

    def test_small_tables(self):
        for n in (1, 2, 3):
            for table in all_tables(n) if n < 3 else all_tables(n)[::3]:
                for most in range(2 ** n + 1):
                    self.look_at(table, most)

    def test_various_tables(self):
        rng = dice("fewest switches")
        for n in range(4, 7):
            for table in various_tables(rng, n, 1) if n < 6 else [draw_table(rng, n), odd_table(n, 27)]:
                for most in range(2 ** n + 1):
                    self.look_at(table, most)

    def test_odd_needs_all_its_switches(self):
        for n in range(1, 7):
            table = odd_table(n, 2 ** n - 1)
            for most in (0, 2 ** (n - 1) - 1, 2 ** (n - 1), 2 ** n):
                self.look_at(table, most)
                self.assertEqual(fewest_switches(slow_sum(table), most)[0], n if most < 2 ** (n - 1) else 0)


if __name__ == "__main__":
    unittest.main()
