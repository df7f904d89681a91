import unittest

from flips import selfsame
from flips.selfsame import is_one_squared
from tests.helper import all_tables, dice, draw_sum, draw_table, drawn_names, fraction_at, slow_sum, spoiled_sums


def is_one_by_places(total):
    return all(fraction_at(total, place) in (1, -1) for place in range(2 ** total[0]))


class OneSquared(unittest.TestCase):
    def look_at(self, total):
        expected = is_one_by_places(total)
        self.assertIs(is_one_squared(total), expected)
        return expected

    def test_sums_of_tables(self):
        rng = dice("one squared")
        for n in (1, 2, 3):
            for table in all_tables(n):
                self.assertIs(is_one_squared(slow_sum(table)), True)
        for n in range(4, 7):
            for _ in range(30):
                self.assertTrue(self.look_at(slow_sum(draw_table(rng, n))))

    def test_without_terms(self):
        for n in range(1, 7):
            self.assertFalse(self.look_at((n, ())))

    def test_one_term(self):
        for n in range(1, 7):
            for subset in range(2 ** n):
                for weight in (2 ** n, -(2 ** n), 2 ** n - 1, 2 ** n + 1, 1, 2 * 2 ** n, 4 ** n, 10 ** 12):
                    self.look_at((n, ((subset, weight),)))

    def test_squares_alone_are_not_enough(self):
        self.assertFalse(self.look_at((2, ((0, 2), (1, 2), (2, 2), (3, 2)))))
        self.assertTrue(self.look_at((2, ((0, 2), (1, 2), (2, 2), (3, -2)))))
        self.assertFalse(self.look_at((4, tuple((subset, 4) for subset in range(16)))))

    def test_other_sets_alone_are_not_enough(self):
        self.assertFalse(self.look_at((2, ((0, 4), (1, 4), (2, 4), (3, -4)))))
        self.assertFalse(self.look_at((2, ((0, 1), (1, 1), (2, 1), (3, -1)))))

    def test_spoiled_sums(self):
        rng = dice("spoiled squares")
        found = {True: 0, False: 0}
        for _ in range(150):
            for total in spoiled_sums(rng, slow_sum(draw_table(rng, rng.randrange(1, 7)))):
                found[self.look_at(total)] += 1
        self.assertGreater(min(found.values()), 10)

    def test_any_weights(self):
        rng = dice("any weights")
        for _ in range(300):
            self.look_at(draw_sum(rng, rng.randrange(1, 7)))

    def test_all_small_weights_of_two_switches(self):
        span = (-4, -2, -1, 0, 1, 2, 4)
        yeses = 0
        for first in span:
            for second in span:
                for third in span:
                    for fourth in span:
                        weights = enumerate((first, second, third, fourth))
                        yeses += self.look_at((2, tuple((subset, weight) for subset, weight in weights if weight)))
        self.assertEqual(yeses, 16)

    def test_no_place_is_gone_to(self):
        drawn = drawn_names(selfsame)
        for name in ("sign", "comes_to", "told", "times_signs", "sum_of"):
            self.assertNotIn(name, drawn)


if __name__ == "__main__":
    unittest.main()
