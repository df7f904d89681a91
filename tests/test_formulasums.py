import unittest

from flips import formulasums
from flips.formulasums import sum_by
from tests.helper import WORDS, answer_of, depth_of, dice, draw_formula, drawn_names, frozen, size_of, slow_sum


class FormulaSums(unittest.TestCase):
    def look_at(self, n, formula):
        ahead = frozen(formula)
        table = tuple(answer_of(formula, place) for place in range(2 ** n))
        self.assertEqual(frozen(sum_by(n, formula)), frozen(slow_sum(table)))
        self.assertEqual(frozen(formula), ahead)

    def test_by_hand(self):
        self.assertEqual(sum_by(1, ("yes",)), (1, ((0, -2),)))
        self.assertEqual(sum_by(3, ("no",)), (3, ((0, 8),)))
        self.assertEqual(sum_by(3, ("at", 2)), (3, ((4, 8),)))
        self.assertEqual(sum_by(2, ("not", ("at", 1))), (2, ((2, -4),)))
        self.assertEqual(sum_by(2, ("both", ("at", 0), ("at", 1))), (2, ((0, 2), (1, 2), (2, 2), (3, -2))))
        self.assertEqual(sum_by(2, ("either", ("at", 0), ("at", 1))), (2, ((0, -2), (1, 2), (2, 2), (3, 2))))
        self.assertEqual(sum_by(2, ("odd", ("at", 0), ("at", 1))), (2, ((3, 4),)))
        self.assertEqual(sum_by(3, ("most", ("at", 0), ("at", 1), ("at", 2))), (3, ((1, 4), (2, 4), (4, 4), (7, -4))))

    def test_each_word_over_all_small_formulas(self):
        for n in range(1, 7):
            ends = [("yes",), ("no",)] + [("at", switch) for switch in range(n)]
            for end in ends:
                self.look_at(n, end)
                self.look_at(n, ("not", end))
            ends = [("yes",), ("no",), ("at", 0), ("at", n - 1), ("at", n // 2)]
            for one in ends:
                for other in ends:
                    for word in ("both", "either", "odd"):
                        self.look_at(n, (word, one, other))
                    self.look_at(n, ("most", one, other, ("at", n // 2)))
                    self.look_at(n, ("most", ("not", ("at", 0)), one, other))

    def test_each_word_over_drawn_formulas(self):
        rng = dice("sums of words")
        for n in range(1, 7):
            for word, parts in WORDS.items():
                if parts:
                    for _ in range(5):
                        self.look_at(n, (word,) + tuple(draw_formula(rng, n, 6, 5) for _ in range(parts)))

    def test_up_to_twenty_formulas(self):
        rng = dice("twenty")
        for n in range(1, 7):
            for many in range(1, 21):
                formula = draw_formula(rng, n, many, 8)
                self.assertEqual(size_of(formula), many)
                self.look_at(n, formula)

    def test_eight_within_one_another(self):
        rng = dice("eight")
        for n in range(1, 7):
            for word in ("not", "both", "either", "odd", "most"):
                formula = ("at", rng.randrange(n))
                for _ in range(7):
                    sides = [("at", rng.randrange(n)) for _ in range(WORDS[word] - 1)]
                    formula = (word, *sides, formula) if size_of(formula) < 17 else ("not", formula)
                self.assertEqual(depth_of(formula), 8)
                self.assertLessEqual(size_of(formula), 20)
                self.look_at(n, formula)

    def test_by_deeds_alone(self):
        for name in ("table_of", "says_yes", "sum_of", "told", "comes_to", "sign"):
            self.assertNotIn(name, drawn_names(formulasums))


if __name__ == "__main__":
    unittest.main()
