import itertools
import unittest

from flips import hardchecker
from flips.hardchecker import lets_hard
from tests.helper import FORTY, dice, draw_ending_game, draw_game, draw_plain, drawn_names, frozen, \
    other_plain_things, sets_of_things, singled_game, slow_fewest, slow_left, slow_unparted

GAME = ((0, 0, 0, 1), ((False, True, False, True), (False, False, True, True)))
PAPER = (((0, 1, 2, 3), 2), ((1, 3), 1), ((2, 3), 1))


def is_slow_entry(game, entry):
    if type(entry) is not tuple or len(entry) != 2 or type(entry[0]) is not tuple or type(entry[1]) is not int:
        return False
    things, number = entry
    if not all(type(thing) is int and 0 <= thing < len(game[0]) for thing in things):
        return False
    if list(things) != sorted(set(things)) or number < 1:
        return False
    return any(game[0][one] != game[0][other] for one, other in itertools.combinations(things, 2))


def slow_lets(game, d, thing):
    """Points 47 and 48 word by word."""
    if type(thing) is not tuple or not all(is_slow_entry(game, entry) for entry in thing):
        return False
    for things, number in thing:
        for question in range(len(game[1])) if number > 1 else ():
            if not any(set(others) <= set(slow_left(game, things, question, answer)) and other >= number - 1
                       for others, other in thing for answer in (True, False)):
                return False
    return d == 0 or any(number >= d for things, number in thing)


def whole_paper(game):
    """An entry for each choice of things of unlike labels, with the number of asks that they need."""
    numbers = [(things, slow_fewest(game, things)) for things in sets_of_things(game)]
    return tuple((things, number) for things, number in numbers if number > 0)


def everything(game):
    return tuple(range(len(game[0])))


class LetsHard(unittest.TestCase):
    def look_at(self, game, d, thing):
        ahead = (frozen(game), frozen(thing))
        expected = slow_lets(game, d, thing)
        self.assertIs(lets_hard(game, d, thing), expected)
        self.assertEqual((frozen(game), frozen(thing)), ahead)
        return expected

    def let_by(self, game, d, thing):
        self.assertTrue(self.look_at(game, d, thing))

    def not_let_by(self, game, d, thing):
        self.assertFalse(self.look_at(game, d, thing))


class Papers(LetsHard):
    def test_by_hand(self):
        for d in (0, 1, 2):
            self.let_by(GAME, d, PAPER)
        for d in (3, 4, FORTY):
            self.not_let_by(GAME, d, PAPER)
        self.let_by(GAME, 1, (((0, 1, 2, 3), 1),))
        self.not_let_by(GAME, 2, (((0, 1, 2, 3), 1),))
        self.not_let_by(GAME, 2, (((0, 1, 2, 3), 2),))
        self.let_by(GAME, 1, (((1, 3), 1),))

    def test_the_paper_without_entries(self):
        for game in (GAME, ((3,), ((True,),)), singled_game(10)):
            self.let_by(game, 0, ())
            for d in (1, 2, 9):
                self.not_let_by(game, d, ())
            self.not_let_by(game, 0, [])
            self.not_let_by(game, 0, {})

    def test_for_no_asks_it_still_has_to_be_a_hard_paper(self):
        self.let_by(GAME, 0, PAPER)
        self.not_let_by(GAME, 0, (((0, 1, 2, 3), 2),))
        self.not_let_by(GAME, 0, (((0, 1), 1),))
        self.not_let_by(GAME, 0, PAPER + (((0, 1, 2, 3), 3),))

    def test_the_greatest_number_may_be_of_any_things(self):
        self.let_by(GAME, 2, (((1, 3), 1), ((2, 3), 1), ((1, 2, 3), 2)))
        self.not_let_by(GAME, 2, (((1, 3), 1), ((0, 2, 3), 2)))

    def test_whole_papers_for_each_d(self):
        rng = dice("whole papers")
        for _ in range(40):
            game = draw_ending_game(rng, rng.randrange(1, 7), rng.randrange(1, 5), rng.randrange(1, 6))
            paper = list(whole_paper(game))
            rng.shuffle(paper)
            most = slow_fewest(game, everything(game))
            for d in range(most + 3):
                self.assertEqual(self.look_at(game, d, tuple(paper)), d <= most)

    def test_at_the_bounds(self):
        game = singled_game(10)
        paper = tuple((things, len(things) - 1) for things in sets_of_things(game) if len(things) > 1)
        self.assertEqual(len(paper), 1013)
        for d in (0, 1, 8, 9):
            self.assertIs(lets_hard(game, d, paper), True)
        self.assertIs(lets_hard(game, 10, paper), False)
        for spot in (0, 1, 44, 500, 1011):
            self.assertIs(lets_hard(game, 1, paper[:spot] + paper[spot + 1:]), False)
        self.assertIs(lets_hard(game, 9, paper + paper), True)

    def test_two_thousand_entries(self):
        game = (tuple(range(16)), tuple(tuple(thing // 2 ** row % 2 == 1 for thing in range(16)) for row in range(4)))
        pairs = list(itertools.combinations(range(16), 2))
        threes = list(itertools.combinations(range(16), 3))
        fours = list(itertools.combinations(range(16), 4))
        paper = tuple([(things, 1) for things in pairs + threes + fours[:1314]] + [(tuple(range(16)), 2)])
        self.assertEqual(len(paper), 1995)
        for d, expected in ((2, True), (3, False)):
            self.assertIs(lets_hard(game, d, paper), expected)
        self.assertIs(lets_hard(game, 1, tuple((things, 2) for things in fours)), False)

    def test_drawn_papers(self):
        rng = dice("drawn hard papers")
        found = {True: 0, False: 0}
        for _ in range(2500):
            game = draw_game(rng, rng.randrange(2, 6), rng.randrange(1, 4), rng.randrange(2, 6))
            if slow_unparted(game):
                continue
            paper = []
            for things, number in whole_paper(game):
                if rng.random() < 0.85:
                    paper.append((things, max(1, number + rng.choice((0,) * 12 + (-1, -1, 1)))))
            rng.shuffle(paper)
            found[self.look_at(game, rng.randrange(4), tuple(paper))] += 1
        self.assertGreater(min(found.values()), 100)

    def test_whoever_wrote_it_no_way_needs_fewer(self):
        rng = dice("no way needs fewer")
        let_by = 0
        for _ in range(3000):
            game = draw_ending_game(rng, rng.randrange(2, 6), rng.randrange(1, 4), 5)
            paper = tuple((things, max(1, number + rng.choice((0,) * 20 + (-1, -1, -1, 1))))
                          for things, number in whole_paper(game) if rng.random() < 0.95)
            for d in range(1, 5):
                if lets_hard(game, d, paper):
                    let_by += d > 1
                    self.assertGreaterEqual(slow_fewest(game, everything(game)), d)
        self.assertGreater(let_by, 50)


class Entries(LetsHard):
    def test_things_that_fall_or_stand_twice_or_lie_beyond(self):
        self.let_by(GAME, 1, (((0, 3), 1),))
        for things in ((3, 0), (0, 0, 3), (0, 3, 3), (0, 3, 2), (0, 3, 4), (-1, 0, 3), (0, 3, FORTY), (4,), (-1,),
                       (1, 0, 3), (0, 4), (-4, 3)):
            self.not_let_by(GAME, 1, ((things, 1),))
            self.not_let_by(GAME, 0, PAPER + ((things, 1),))
            self.not_let_by(GAME, 0, ((things, 1),) + PAPER)

    def test_things_of_one_label_or_none(self):
        for things in ((), (0,), (3,), (0, 1), (0, 1, 2)):
            self.not_let_by(GAME, 0, ((things, 1),))
            self.not_let_by(GAME, 1, PAPER + ((things, 1),))
        self.let_by(GAME, 1, PAPER + (((0, 1, 3), 1),))
        one_label = ((5, 5, 5), ((True, False, True),))
        self.not_let_by(one_label, 0, (((0, 1, 2), 1),))
        self.let_by(one_label, 0, ())

    def test_numbers(self):
        for number in (0, -1, True, False, None, "1", (1,), [1], {}, -FORTY):
            self.not_let_by(GAME, 0, (((0, 3), number),))
            self.not_let_by(GAME, 0, PAPER + (((0, 3), number),))
        for number in (2, 3, FORTY):
            self.not_let_by(GAME, 0, PAPER + (((0, 3), number),))

    def test_truths_for_things(self):
        for things in ((False, 3), (0, True, 3), (True, 3), (0, None, 3), (0, "3"), (0, (3,)), ((0,), 3), ([0], 3)):
            self.not_let_by(GAME, 0, ((things, 1),))
            self.not_let_by(GAME, 0, PAPER + ((things, 1),))

    def test_lists_for_tuples(self):
        self.not_let_by(GAME, 2, list(PAPER))
        for spot in range(len(PAPER)):
            for entry in (list(PAPER[spot]), (list(PAPER[spot][0]), PAPER[spot][1]),
                          (dict(enumerate(PAPER[spot][0])), PAPER[spot][1]), dict(enumerate(PAPER[spot]))):
                self.not_let_by(GAME, 2, PAPER[:spot] + (entry,) + PAPER[spot + 1:])

    def test_other_lengths(self):
        for entry in ((), ((0, 3),), (1,), ((0, 3), 1, 1), ((0, 3), 1, ()), (1, (0, 3)), (0, 3), 1, (0, 3, 1)):
            self.not_let_by(GAME, 1, PAPER + (entry,))
            self.not_let_by(GAME, 1, (entry,))
        self.not_let_by(GAME, 1, PAPER[0])

    def test_without_support_by_some_question(self):
        self.let_by(GAME, 2, PAPER)
        # Question 0 leaves (1, 3) by yes and (0, 2) by no; question 1 leaves (2, 3) and (0, 1).
        self.not_let_by(GAME, 2, (PAPER[0], PAPER[1]))
        self.not_let_by(GAME, 2, (PAPER[0], PAPER[2]))
        self.not_let_by(GAME, 2, (PAPER[0], PAPER[1], ((0, 3), 1)))
        self.not_let_by(GAME, 2, (PAPER[0], PAPER[1], ((0, 2, 3), 1)))
        for spot in range(3):
            self.let_by(GAME, 2, PAPER[spot:] + PAPER[:spot])

    def test_support_by_a_number_too_small(self):
        game = singled_game(4)
        pairs = tuple((things, 1) for things in itertools.combinations(range(4), 2))
        threes = tuple((things, 2) for things in itertools.combinations(range(4), 3))
        self.let_by(game, 3, pairs + threes + (((0, 1, 2, 3), 3),))
        self.let_by(game, 2, pairs + threes + (((0, 1, 2, 3), 2),))
        self.not_let_by(game, 1, pairs + threes + (((0, 1, 2, 3), 4),))
        smaller = tuple((things, 1) for things, number in threes[:1]) + threes[1:]
        self.not_let_by(game, 3, pairs + smaller + (((0, 1, 2, 3), 3),))
        self.let_by(game, 2, pairs + smaller + (((0, 1, 2, 3), 2),))

    def test_support_by_things_within_those_left(self):
        game = ((0, 1, 2, 3, 4), ((True, True, True, False, False), (True, False, True, False, True)))
        self.let_by(game, 2, (((0, 1, 2, 3, 4), 2), ((0, 2), 1)))
        self.not_let_by(game, 2, (((0, 1, 2, 3, 4), 2), ((0, 1, 2), 1)))
        self.let_by(game, 2, (((0, 1, 2, 3, 4), 2), ((0, 1), 1), ((1, 3), 1)))
        self.let_by(game, 2, (((0, 1, 2, 3, 4), 2), ((0, 1, 2), 1), ((2, 4), 1)))
        self.not_let_by(game, 2, (((0, 1, 2, 3, 4), 2), ((0, 1, 2), 1), ((3, 4), 1)))

    def test_support_by_the_greatest_of_several_within_those_left(self):
        game = singled_game(5)
        pairs = tuple((things, 1) for things in itertools.combinations(range(5), 2))
        threes = tuple((things, 2) for things in itertools.combinations(range(5), 3))
        for paper in (pairs + threes, threes + pairs):
            self.let_by(game, 3, paper + (((0, 1, 2, 3, 4), 3),))
            self.not_let_by(game, 3, paper + (((0, 1, 2, 3, 4), 4),))

    def test_support_must_lie_within_the_entry(self):
        game = singled_game(4)
        # (2, 3) is left by no of question 0, but not of the things of the entry.
        self.not_let_by(game, 2, (((0, 1, 2), 2), ((0, 1), 1), ((0, 2), 1), ((2, 3), 1), ((1, 3), 1)))
        self.let_by(game, 2, (((0, 1, 2), 2), ((0, 1), 1), ((0, 2), 1), ((1, 2), 1)))

    def test_support_by_the_entry_itself(self):
        game = ((0, 1, 2), ((True, True, True), (True, False, False), (False, True, False), (False, False, False)))
        self.let_by(game, 2, (((0, 1, 2), 2), ((1, 2), 1), ((0, 2), 1)))
        self.not_let_by(game, 2, (((0, 1, 2), 2), ((1, 2), 1)))
        self.not_let_by(game, 1, (((0, 1), 2),))
        # No question parts these two, so no number of asks is enough.
        endless = ((0, 1, 0), ((True, True, False), (False, False, True)))
        for number in (1, 2, 50, FORTY):
            self.let_by(endless, number, (((0, 1), number),))
            self.not_let_by(endless, number + 1, (((0, 1), number),))
            self.let_by(endless, number, (((0, 1), number), ((0, 1, 2), number)))
            self.let_by(endless, number + 1, (((0, 1), number), ((0, 1, 2), number + 1)))
            self.not_let_by(endless, number, (((0, 1), number), ((0, 1, 2), number + 2)))

    def test_several_entries_of_the_same_things(self):
        self.let_by(GAME, 2, PAPER + PAPER)
        self.let_by(GAME, 2, PAPER + (((0, 1, 2, 3), 1),))
        self.let_by(GAME, 2, (((0, 1, 2, 3), 1),) + PAPER)
        self.not_let_by(GAME, 2, PAPER + (((1, 3), 2),))
        self.not_let_by(GAME, 2, (((1, 3), 2),) + PAPER)

    def test_other_plain_things(self):
        rng = dice("no hard papers")
        for thing in other_plain_things():
            for whole in (thing, (thing,), PAPER + (thing,), ((thing, 1),), (((0, 3), thing),), ((((0, thing)), 1),)):
                self.assertIs(lets_hard(GAME, 0, whole), slow_lets(GAME, 0, whole))
                self.assertIs(lets_hard(GAME, 2, whole), False)
        for _ in range(2000):
            self.look_at(GAME, rng.randrange(3), draw_plain(rng))
            self.look_at(GAME, rng.randrange(3), (draw_plain(rng),))
            self.look_at(GAME, rng.randrange(3), PAPER + ((draw_plain(rng), 1),))

    def test_no_way_of_asking_is_reckoned(self):
        self.assertNotIn("Reckoner", drawn_names(hardchecker))
        self.assertNotIn("fewest_of", drawn_names(hardchecker))


if __name__ == "__main__":
    unittest.main()
