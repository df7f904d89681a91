import itertools
import unittest

from flips.errors import NoEnd
from flips.fewest import fewest
from flips.games import class_game, fewest_of, game_of
from flips.hardchecker import lets_hard
from flips.treechecker import lets_tree
from tests.helper import all_tables, dice, draw_ending_game, draw_game, draw_table, frozen, odd_table, singled_game, \
    slow_fewest, slow_tree, slow_unparted, various_tables


def trees_of(game, deep):
    """All trees of the game that say its labels, by at most so many asks on a way."""
    found = [("say", label) for label in sorted(set(game[0]))]
    if deep == 0:
        return found
    below = trees_of(game, deep - 1)
    return found + [("ask", question, no, yes) for question in range(len(game[1])) for no in below for yes in below]


class Fewest(unittest.TestCase):
    def look_at(self, game):
        ahead = frozen(game)
        told = fewest(game)
        self.assertIs(type(told), tuple)
        d, tree, paper = told
        everything = tuple(range(len(game[0])))
        self.assertEqual(frozen(d), frozen(slow_fewest(game, everything)))
        self.assertEqual(d, fewest_of(game, everything))
        self.assertEqual(frozen(tree), frozen(slow_tree(game, everything)))
        self.let_by(game, d, tree, paper)
        self.assertEqual(frozen(game), ahead)
        return told

    def let_by(self, game, d, tree, paper):
        self.assertIs(lets_tree(game, d, tree), True)
        self.assertIs(lets_hard(game, d, paper), True)
        self.assertIs(lets_hard(game, d + 1, paper), False)
        self.assertLessEqual(len(paper), 2000)
        if d > 0:
            self.assertIs(lets_tree(game, d - 1, tree), False)

    def refused(self, game, one, other):
        ahead = frozen(game)
        with self.assertRaises(NoEnd) as taken:
            fewest(game)
        self.assertEqual(frozen((taken.exception.one, taken.exception.other)), frozen((one, other)))
        self.assertEqual(frozen(game), ahead)

    def test_by_hand(self):
        told = self.look_at(((0, 0, 0, 1), ((False, True, False, True), (False, False, True, True))))
        self.assertEqual(told[:2], (2, ("ask", 0, ("say", 0), ("ask", 1, ("say", 0), ("say", 1)))))
        told = self.look_at(((4, 4, 9), ((True, True, True), (False, False, True))))
        self.assertEqual(told[:2], (1, ("ask", 1, ("say", 4), ("say", 9))))

    def test_one_label(self):
        for things in (1, 2, 10, 16):
            for label in (0, -3, 10 ** 39):
                game = ((label,) * things, draw_game(dice("one label"), things, 5)[1])
                told = self.look_at(game)
                self.assertEqual(frozen(told[:2]), frozen((0, ("say", label))))

    def test_drawn_games(self):
        rng = dice("fewest")
        for _ in range(150):
            things, rows = rng.randrange(1, 8), rng.randrange(1, 6)
            self.look_at(draw_ending_game(rng, things, rows, rng.choice((2, 3, 9))))

    def test_the_first_question_by_which_it_is_least(self):
        eight = [tuple(thing // 2 ** row % 2 == 1 for thing in range(8)) for row in range(3)]
        for order in itertools.permutations(range(3)):
            game = (tuple(range(8)), ((False,) * 8, (True,) + (False,) * 7) + tuple(eight[row] for row in order))
            d, tree, paper = self.look_at(game)
            self.assertEqual((d, tree[1], tree[2][1], tree[3][1]), (3, 2, 3, 3))
        # The first question parts, too, but leaves seven things, that need three asks more.
        game = (tuple(range(8)), ((True,) + (False,) * 7,) + tuple(eight))
        self.assertEqual(self.look_at(game)[1][1], 1)

    def test_of_two_questions_alike_the_first(self):
        row = (True, False, True)
        told = self.look_at(((1, 2, 1), ((True,) * 3, row, row)))
        self.assertEqual(told[1], ("ask", 1, ("say", 2), ("say", 1)))

    def test_no_tree_for_fewer(self):
        rng = dice("no tree for fewer")
        seen = {}
        while min([seen.get(d, 0) for d in (1, 2)]) < 8:
            game = draw_ending_game(rng, rng.randrange(2, 6), rng.randrange(1, 4), 2)
            d = fewest(game)[0]
            if 1 <= d <= 3:
                seen[d] = seen.get(d, 0) + 1
                for tree in trees_of(game, d - 1):
                    self.assertIs(lets_tree(game, d - 1, tree), False)

    def test_at_the_bounds(self):
        rng = dice("fewest at the bounds")
        for things, rows in ((10, 16), (16, 5), (10, 5), (16, 4), (1, 16), (16, 1)):
            for labels in (2, 20):
                self.look_at(draw_ending_game(rng, things, rows, labels))

    def test_the_hardest_game_of_ten_things(self):
        d, tree, paper = fewest(singled_game(10))
        self.assertEqual(d, 9)
        self.let_by(singled_game(10), d, tree, paper)
        for question in range(9):
            self.assertEqual((tree[0], tree[1], tree[3]), ("ask", question, ("say", question)))
            tree = tree[2]
        self.assertEqual(tree, ("say", 9))

    def test_games_of_tables(self):
        rng = dice("fewest of tables")
        for n in (1, 2):
            for table in all_tables(n):
                self.look_at(game_of(table))
        for n in (3, 4):
            for table in various_tables(rng, n, 2):
                self.look_at(game_of(table))
            self.assertEqual(fewest(game_of(odd_table(n, 2 ** n - 1)))[0], n)

    def test_games_of_classes(self):
        rng = dice("fewest of classes")
        for n in (2, 3, 4):
            for many in (2, 4, 7, 10):
                tables = sorted({draw_table(rng, n) for _ in range(many)})
                self.look_at(class_game(tables))

    def test_no_end_by_hand(self):
        self.refused(((0, 1), ((True, True),)), 0, 1)
        self.refused(((0, 0, 1), ((True, True, True),)), 0, 2)
        # By one first, then by other: 0 and 3 stand ahead of 1 and 2.
        self.refused(((0, 1, 2, 3), ((True, False, False, True),)), 0, 3)
        self.refused(((0, 1, 1, 0, 2), ((True, False, False, True, False),)), 1, 4)
        self.refused(((5, 6, 7), ((True, True, True), (False, False, False))), 0, 1)

    def test_no_end_drawn(self):
        rng = dice("no end")
        refused = 0
        for _ in range(300):
            game = draw_game(rng, rng.randrange(1, 9), rng.randrange(1, 5))
            pair = slow_unparted(game)
            if pair:
                refused += 1
                self.refused(game, *pair)
            else:
                self.look_at(game)
        self.assertTrue(50 < refused < 250)


if __name__ == "__main__":
    unittest.main()
