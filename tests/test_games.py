import itertools
import unittest

from flips.errors import Alike
from flips.games import class_game, ends, fewest_of, game_of, is_game, left_by
from tests.helper import FORTY, all_tables, dice, draw_ending_game, draw_game, draw_plain, draw_table, frozen, is_on, \
    odd_table, other_plain_things, sets_of_things, singled_game, slow_fewest, slow_left, slow_unparted, various_tables


def plain_game(things, rows):
    return (tuple(range(things)), tuple((row % 2 == 0,) * things for row in range(rows)))


def slow_is_game(thing):
    """Point 40 word by word."""
    if type(thing) is not tuple or len(thing) != 2 or not all(type(part) is tuple for part in thing):
        return False
    labels, rows = thing
    if not 1 <= len(labels) <= 16 or not 1 <= len(rows) <= 16 or not all(type(label) is int for label in labels):
        return False
    return all(type(row) is tuple and len(row) == len(labels) and all(type(answer) is bool for answer in row)
               for row in rows)


def put_in(whole, spot, thing):
    return whole[:spot] + (thing,) + whole[spot + 1:]


class IsGame(unittest.TestCase):
    def look_at(self, thing):
        ahead = frozen(thing)
        expected = slow_is_game(thing)
        self.assertIs(is_game(thing), expected)
        self.assertEqual(frozen(thing), ahead)
        return expected

    def test_how_many_things_and_rows(self):
        for things in (0, 1, 2, 15, 16, 17, 60):
            for rows in (0, 1, 2, 15, 16, 17, 60):
                fits = 1 <= things <= 16 and 1 <= rows <= 16
                self.assertIs(is_game(plain_game(things, rows)), fits)
                self.assertIs(self.look_at(plain_game(things, rows)), fits)

    def test_labels(self):
        rows = ((True, False, True),)
        for labels in ((0, 0, 0), (-1, 5, -1), (FORTY, -FORTY, 0)):
            self.assertIs(is_game((labels, rows)), True)
        for bad in (True, False, None, "0", "", (0,), [0], {}, ()):
            for spot in range(3):
                self.assertFalse(self.look_at((put_in((4, 4, 4), spot, bad), rows)))

    def test_answers(self):
        for bad in (0, 1, -1, None, "True", (True,), [True], {}, ()):
            for things, rows in ((1, 1), (3, 2), (16, 16)):
                game = plain_game(things, rows)
                row, spot = rows - 1, things - 1
                self.assertFalse(self.look_at((game[0], put_in(game[1], row, put_in(game[1][row], spot, bad)))))

    def test_rows_of_other_lengths(self):
        for things, rows in ((1, 1), (3, 2), (16, 16)):
            game = plain_game(things, rows)
            for row in (0, rows - 1):
                for bad in ((), game[1][row][1:], game[1][row] + (True,), game[1][row] * 2):
                    self.assertFalse(self.look_at((game[0], put_in(game[1], row, bad))))
            self.assertFalse(self.look_at((game[0] + (0,), game[1])))

    def test_lists_for_tuples(self):
        for game in (plain_game(1, 1), plain_game(3, 2), plain_game(16, 16)):
            for thing in (list(game), (list(game[0]), game[1]), (game[0], list(game[1])),
                          (game[0], put_in(game[1], 0, list(game[1][0]))), dict(enumerate(game)),
                          (dict(enumerate(game[0])), game[1]), (game[0], dict(enumerate(game[1])))):
                self.assertFalse(self.look_at(thing))

    def test_other_lengths(self):
        game = plain_game(2, 2)
        for thing in ((), (game[0],), (game[1],), game + ((),), game + game, (game,), (game[1], game[0])):
            self.assertFalse(self.look_at(thing))

    def test_other_plain_things(self):
        rng = dice("no games")
        game = plain_game(2, 2)
        for thing in other_plain_things():
            for whole in (thing, (thing, game[1]), (game[0], thing), (game[0], (thing,)), (game[0], game[1] + (thing,)),
                          ((thing,), ((True,),)), ((0,), ((thing,),)), ((0,), (thing,))):
                self.assertIs(is_game(whole), slow_is_game(whole))
        for _ in range(2000):
            self.look_at(draw_plain(rng))
            self.look_at((draw_plain(rng), game[1]))
            self.look_at((game[0], draw_plain(rng)))

    def test_drawn_games(self):
        rng = dice("games")
        for _ in range(300):
            self.assertTrue(self.look_at(draw_game(rng, rng.randrange(1, 17), rng.randrange(1, 17))))


class GameOf(unittest.TestCase):
    def look_at(self, table):
        n = len(table).bit_length() - 1
        labels = tuple(int(answer) for answer in table)
        rows = tuple(tuple(is_on(place, switch) for place in range(2 ** n)) for switch in range(n))
        found = game_of(table)
        self.assertEqual(frozen(found), frozen((labels, rows)))
        self.assertIs(is_game(found), True)
        self.assertIs(ends(found), True)

    def test_by_hand(self):
        self.assertEqual(frozen(game_of((True, False))), frozen(((1, 0), ((False, True),))))
        both = ((0, 0, 0, 1), ((False, True, False, True), (False, False, True, True)))
        self.assertEqual(frozen(game_of((False, False, False, True))), frozen(both))

    def test_all_tables_of_one_and_two_switches(self):
        for n in (1, 2):
            for table in all_tables(n):
                self.look_at(table)

    def test_three_and_four_switches(self):
        rng = dice("games of tables")
        for n in (3, 4):
            for table in various_tables(rng, n, 10):
                self.look_at(table)


class ClassGame(unittest.TestCase):
    def look_at(self, tables):
        rows = tuple(tuple(table[place] for table in tables) for place in range(len(tables[0])))
        expected = frozen((tuple(range(len(tables))), rows))
        for handed in (list(tables), tuple(tables)):
            ahead = frozen(handed)
            found = class_game(handed)
            self.assertEqual(frozen(found), expected)
            self.assertEqual(frozen(handed), ahead)
            self.assertIs(is_game(found), True)
            self.assertIs(ends(found), True)

    def refused(self, tables, one, other):
        for handed in (list(tables), tuple(tables)):
            ahead = frozen(handed)
            with self.assertRaises(Alike) as taken:
                class_game(handed)
            self.assertEqual(frozen((taken.exception.one, taken.exception.other)), frozen((one, other)))
            self.assertEqual(frozen(handed), ahead)

    def test_by_hand(self):
        tables = [(True, False), (False, False), (True, True)]
        expected = ((0, 1, 2), ((True, False, True), (False, False, True)))
        self.assertEqual(frozen(class_game(tables)), frozen(expected))

    def test_two_to_ten_tables(self):
        rng = dice("classes")
        for n in range(1, 5):
            for many in range(2, min(10, 2 ** 2 ** n) + 1):
                for _ in range(5):
                    tables = []
                    while len(tables) < many:
                        table = draw_table(rng, n)
                        tables += [] if table in tables else [table]
                    self.look_at(tables)

    def test_what_is_done_to_the_list_changes_nothing(self):
        tables = [(True, False), (False, False)]
        found = class_game(tables)
        tables.append((True, True))
        tables[0] = (False, False)
        self.assertEqual(found, ((0, 1), ((True, False), (False, False))))

    def test_alike_by_hand(self):
        a, b, c = (True, False), (False, True), (True, True)
        self.refused([a, a], 0, 1)
        self.refused([a, b, b, a], 1, 2)
        self.refused([a, b, a, b], 0, 2)
        self.refused([a, b, c, b, a], 1, 3)
        self.refused([a, b, c, c, c], 2, 3)
        self.refused([a, a, a], 0, 1)

    def test_alike_drawn(self):
        rng = dice("alike")
        refused = 0
        for _ in range(400):
            n = rng.randrange(1, 4)
            tables = [draw_table(rng, n) for _ in range(rng.randrange(2, 11))]
            pairs = [(other, one) for one, other in itertools.combinations(range(len(tables)), 2)
                     if tables[one] == tables[other]]
            if pairs:
                refused += 1
                self.refused(tables, min(pairs)[1], min(pairs)[0])
            else:
                self.look_at(tables)
        self.assertGreater(refused, 100)
        self.assertLess(refused, 390)


class LeftBy(unittest.TestCase):
    def test_by_hand(self):
        game = ((0, 1, 2, 3), ((True, False, True, False), (False, False, False, False)))
        self.assertEqual(frozen(left_by(game, (0, 1, 2, 3), 0, True)), frozen((0, 2)))
        self.assertEqual(frozen(left_by(game, (0, 1, 2, 3), 0, False)), frozen((1, 3)))
        self.assertEqual(frozen(left_by(game, (1, 2), 0, True)), frozen((2,)))
        self.assertEqual(frozen(left_by(game, (1, 3), 0, True)), frozen(()))
        self.assertEqual(frozen(left_by(game, (1, 3), 1, False)), frozen((1, 3)))
        self.assertEqual(frozen(left_by(game, (1, 3), 1, True)), frozen(()))
        self.assertEqual(frozen(left_by(game, (), 0, True)), frozen(()))
        self.assertEqual(frozen(left_by(game, (), 0, False)), frozen(()))

    def test_drawn(self):
        rng = dice("left by")
        for _ in range(200):
            game = draw_game(rng, rng.randrange(1, 17), rng.randrange(1, 17))
            whole = tuple(range(len(game[0])))
            some = tuple(thing for thing in whole if rng.random() < 0.6)
            for things in ((), whole, some):
                for question in range(len(game[1])):
                    for answer in (True, False):
                        found = left_by(game, things, question, answer)
                        self.assertEqual(frozen(found), frozen(slow_left(game, things, question, answer)))


class Ends(unittest.TestCase):
    def test_by_hand(self):
        self.assertIs(ends(((7,), ((True,),))), True)
        self.assertIs(ends(((7, 7), ((True, True),))), True)
        self.assertIs(ends(((7, 8), ((True, True),))), False)
        self.assertIs(ends(((7, 8), ((True, True), (False, True)))), True)
        self.assertIs(ends(((7, 8, 8), ((True, False, True), (False, True, False)))), False)
        self.assertIs(ends(((7, 8, 7), ((True, False, True), (False, True, False)))), True)

    def test_drawn(self):
        rng = dice("ends")
        found = {True: 0, False: 0}
        for _ in range(600):
            game = draw_game(rng, rng.randrange(1, 17), rng.randrange(1, 9))
            found[ends(game)] += 1
            self.assertIs(ends(game), slow_unparted(game) is None)
        self.assertGreater(min(found.values()), 100)
        for _ in range(100):
            self.assertIs(ends(draw_ending_game(rng, rng.randrange(1, 17), rng.randrange(1, 6))), True)


class FewestOf(unittest.TestCase):
    def look_at(self, game, things):
        ahead = frozen(game)
        self.assertEqual(frozen(fewest_of(game, things)), frozen(slow_fewest(game, things)))
        self.assertEqual(frozen(game), ahead)

    def test_by_hand(self):
        game = ((0, 0, 0, 1), ((False, True, False, True), (False, False, True, True)))
        self.assertEqual(frozen(fewest_of(game, (0, 1, 2, 3))), frozen(2))
        self.assertEqual(frozen(fewest_of(game, (0, 1, 2))), frozen(0))
        self.assertEqual(frozen(fewest_of(game, (1, 3))), frozen(1))
        self.assertEqual(frozen(fewest_of(game, (0, 3))), frozen(1))
        self.assertEqual(frozen(fewest_of(game, (3,))), frozen(0))
        self.assertEqual(frozen(fewest_of(game, ())), frozen(0))

    def test_all_sets_of_things_of_small_games(self):
        rng = dice("small games")
        for _ in range(60):
            game = draw_ending_game(rng, rng.randrange(1, 7), rng.randrange(1, 5), rng.randrange(1, 6))
            for things in sets_of_things(game):
                self.look_at(game, things)

    def test_things_of_one_label(self):
        rng = dice("one label")
        for things in (1, 5, 10):
            game = ((3,) * things, tuple(draw_game(rng, things, 16)[1]))
            for chosen in sets_of_things(game):
                self.assertEqual(frozen(fewest_of(game, chosen)), frozen(0))

    def test_each_question_singles_out_one_thing(self):
        for things in range(1, 11):
            game = singled_game(things)
            for many in range(things + 1):
                self.assertEqual(fewest_of(game, tuple(range(many))), max(0, many - 1))

    def test_tables(self):
        rng = dice("asks of tables")
        for n in (1, 2, 3, 4):
            everywhere = tuple(range(2 ** n))
            self.assertEqual(fewest_of(game_of(odd_table(n, 2 ** n - 1)), everywhere), n)
            self.assertEqual(fewest_of(game_of((True,) * 2 ** n), everywhere), 0)
            for table in various_tables(rng, n, 3):
                self.look_at(game_of(table), everywhere)

    def test_ten_things_or_five_rows(self):
        rng = dice("at the bounds")
        for things, rows in ((10, 16), (16, 5), (10, 4)):
            for _ in range(3):
                game = draw_ending_game(rng, things, rows, rng.choice((2, 4, 20)))
                self.look_at(game, tuple(range(things)))

    def test_fewer_things_never_need_more(self):
        rng = dice("fewer things")
        for _ in range(20):
            game = draw_ending_game(rng, 8, 6, 8)
            things = tuple(range(8))
            while things:
                dropped = rng.choice(things)
                fewer = tuple(thing for thing in things if thing != dropped)
                self.assertLessEqual(fewest_of(game, fewer), fewest_of(game, things))
                things = fewer


if __name__ == "__main__":
    unittest.main()
