import unittest

from flips.asking import Asking
from flips.errors import NoEnd, NoThing
from flips.games import class_game, game_of
from tests.helper import dice, draw_ending_game, draw_game, draw_table, frozen, singled_game, slow_fewest, \
    slow_first, slow_left, slow_unparted

GAME = ((0, 0, 0, 1), ((False, True, False, True), (False, False, True, True)))


def labels_of(game, things):
    return sorted({game[0][thing] for thing in things})


class AskingCase(unittest.TestCase):
    def stands_at(self, asking, game, things):
        """All that is told of an asking, where these things are left."""
        labels = labels_of(game, things)
        self.assertEqual(frozen(asking.left()), frozen(things))
        self.assertEqual(frozen(asking.ask()), frozen(slow_first(game, things)))
        self.assertEqual(frozen(asking.label()), frozen(labels[0] if len(labels) == 1 else None))
        self.assertEqual(frozen(asking.most()), frozen(slow_fewest(game, things)))

    def told_next(self, asking, game, things, question, answer):
        """Says an answer, looks at what comes of it, and tells what is left behind it."""
        left = slow_left(game, things, question, answer)
        if left:
            self.assertIs(asking.say(question, answer), None)
        else:
            with self.assertRaises(NoThing) as taken:
                asking.say(question, answer)
            self.assertEqual(frozen(taken.exception.question), frozen(question))
            left = things
        self.stands_at(asking, game, left)
        return left


class OneAsking(AskingCase):
    def test_by_hand(self):
        asking = Asking(GAME)
        self.stands_at(asking, GAME, (0, 1, 2, 3))
        self.assertEqual((asking.ask(), asking.label(), asking.most()), (0, None, 2))
        self.assertIs(asking.say(0, True), None)
        self.assertEqual((asking.left(), asking.ask(), asking.label(), asking.most()), ((1, 3), 1, None, 1))
        asking.say(1, True)
        self.assertEqual((asking.left(), asking.ask(), asking.label(), asking.most()), ((3,), None, 1, 0))

    def test_an_answer_that_leaves_none(self):
        asking = Asking(GAME)
        asking.say(1, False)
        self.assertEqual((asking.left(), asking.ask(), asking.label(), asking.most()), ((0, 1), None, 0, 0))
        with self.assertRaises(NoThing) as taken:
            asking.say(1, True)
        self.assertEqual(taken.exception.question, 1)
        self.stands_at(asking, GAME, (0, 1))
        asking.say(1, False)
        self.stands_at(asking, GAME, (0, 1))
        asking.say(0, True)
        self.stands_at(asking, GAME, (1,))
        for question, answer in ((0, False), (1, True)):
            with self.assertRaises(NoThing) as taken:
                asking.say(question, answer)
            self.assertEqual(taken.exception.question, question)
            self.stands_at(asking, GAME, (1,))

    def test_answers_in_any_order_some_twice(self):
        rng = dice("any order")
        for _ in range(120):
            game = draw_ending_game(rng, rng.randrange(1, 9), rng.randrange(1, 6), rng.choice((1, 2, 4, 9)))
            asking = Asking(game)
            things = tuple(range(len(game[0])))
            self.stands_at(asking, game, things)
            for _ in range(8):
                things = self.told_next(asking, game, things, rng.randrange(len(game[1])), rng.random() < 0.5)

    def test_each_hidden_thing_to_the_end(self):
        rng = dice("to the end")
        games = [GAME, singled_game(6), class_game(sorted({draw_table(rng, 3) for _ in range(8)})),
                 game_of(draw_table(rng, 4)), draw_ending_game(rng, 10, 16, 12), draw_ending_game(rng, 16, 5, 12)]
        for game in games:
            for hidden in range(len(game[0])):
                asking = Asking(game)
                things = tuple(range(len(game[0])))
                asks = 0
                most = asking.most()
                while asking.ask() is not None:
                    ahead = asking.most()
                    question = asking.ask()
                    things = self.told_next(asking, game, things, question, game[1][question][hidden])
                    self.assertLess(asking.most(), ahead)
                    asks += 1
                self.assertLessEqual(asks, most)
                self.assertEqual(asking.label(), game[0][hidden])
                self.assertIn(hidden, asking.left())

    def test_one_label(self):
        game = ((6, 6, 6), ((True, False, True),))
        asking = Asking(game)
        self.assertEqual((asking.ask(), asking.label(), asking.left(), asking.most()), (None, 6, (0, 1, 2), 0))
        asking.say(0, False)
        self.assertEqual((asking.ask(), asking.label(), asking.left(), asking.most()), (None, 6, (1,), 0))

    def test_a_label_of_nought(self):
        asking = Asking(((0, 0), ((True, False),)))
        self.assertEqual(frozen(asking.label()), frozen(0))

    def test_asked_again_it_tells_the_same(self):
        asking = Asking(singled_game(8))
        for _ in range(3):
            self.assertEqual((asking.ask(), asking.label(), asking.left(), asking.most()),
                             (0, None, tuple(range(8)), 7))


class TwoAskings(AskingCase):
    def test_two_askings_of_one_game(self):
        rng = dice("two askings")
        for _ in range(30):
            game = draw_ending_game(rng, rng.randrange(2, 9), rng.randrange(1, 6), 9)
            askings = [Asking(game), Asking(game)]
            things = [tuple(range(len(game[0])))] * 2
            for _ in range(8):
                which = rng.randrange(2)
                things[which] = self.told_next(askings[which], game, things[which], rng.randrange(len(game[1])),
                                               rng.random() < 0.5)
                self.stands_at(askings[1 - which], game, things[1 - which])
            self.stands_at(Asking(game), game, tuple(range(len(game[0]))))

    def test_two_games(self):
        one, other = singled_game(4), GAME
        first, second = Asking(one), Asking(other)
        first.say(0, False)
        second.say(0, True)
        self.stands_at(first, one, (1, 2, 3))
        self.stands_at(second, other, (1, 3))


class NoEnds(unittest.TestCase):
    def test_games_that_can_not_end(self):
        rng = dice("askings without end")
        refused = 0
        for _ in range(300):
            game = draw_game(rng, rng.randrange(1, 9), rng.randrange(1, 5))
            pair = slow_unparted(game)
            if pair is None:
                self.assertEqual(Asking(game).left(), tuple(range(len(game[0]))))
                continue
            refused += 1
            with self.assertRaises(NoEnd) as taken:
                Asking(game)
            self.assertEqual(frozen((taken.exception.one, taken.exception.other)), frozen(pair))
        self.assertGreater(refused, 50)

    def test_by_hand(self):
        with self.assertRaises(NoEnd) as taken:
            Asking(((0, 1, 2, 3), ((True, False, False, True),)))
        self.assertEqual((taken.exception.one, taken.exception.other), (0, 3))


if __name__ == "__main__":
    unittest.main()
