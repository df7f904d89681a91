import unittest

from flips.treechecker import lets_tree
from tests.helper import FORTY, are_enough, dice, doubled_tree, draw_ending_game, draw_game, draw_plain, draw_tree, \
    frozen, long_tree, other_plain_things, singled_game, sized_tree, slow_fewest, slow_tree

GAME = ((0, 0, 0, 1), ((False, True, False, True), (False, False, True, True)))
ASK = ("ask", 0, ("say", 0), ("ask", 1, ("say", 0), ("say", 1)))


def walked(game, tree, thing):
    asks = 0
    while tree[0] == "ask":
        tree, asks = tree[2 + game[1][tree[1]][thing]], asks + 1
    return (tree[1], asks)


def longest(game, tree):
    return max(walked(game, tree, thing)[1] for thing in range(len(game[0])))


def comes_home(game, tree):
    return all(walked(game, tree, thing)[0] == label for thing, label in enumerate(game[0]))


def everything(game):
    return tuple(range(len(game[0])))


def bent(tree, rng):
    """The tree with one label turned into another."""
    if tree[0] == "say":
        return ("say", tree[1] + rng.choice((-1, 1)))
    spot = rng.choice((2, 3))
    return tree[:spot] + (bent(tree[spot], rng),) + tree[spot + 1:]


class LetsTree(unittest.TestCase):
    def look_at(self, game, d, tree, expected):
        ahead = (frozen(game), frozen(tree))
        self.assertIs(lets_tree(game, d, tree), expected)
        self.assertEqual((frozen(game), frozen(tree)), ahead)

    def test_by_hand(self):
        for d, expected in ((0, False), (1, False), (2, True), (3, True), (FORTY, True)):
            self.look_at(GAME, d, ASK, expected)
        self.look_at(GAME, 2, ("ask", 1, ("say", 0), ("ask", 0, ("say", 0), ("say", 1))), True)
        self.look_at(GAME, 2, ("ask", 1, ("say", 0), ("ask", 0, ("say", 1), ("say", 0))), False)
        self.look_at(GAME, 9, ("say", 0), False)
        self.look_at(GAME, 9, ("say", 1), False)

    def test_one_label(self):
        for things in (1, 3, 16):
            game = ((4,) * things, ((True,) * things,))
            self.look_at(game, 0, ("say", 4), True)
            self.look_at(game, 5, ("say", 4), True)
            self.look_at(game, 0, ("say", 3), False)
            self.look_at(game, 0, ("ask", 0, ("say", 9), ("say", 4)), False)
            self.look_at(game, 1, ("ask", 0, ("say", 9), ("say", 4)), True)
            self.look_at(game, 1, ("ask", 0, ("say", 4), ("say", 9)), False)

    def test_at_below_and_above_the_longest_way(self):
        rng = dice("longest ways")
        for _ in range(60):
            game = draw_ending_game(rng, rng.randrange(1, 11), rng.randrange(1, 5), rng.randrange(1, 6))
            tree = slow_tree(game, everything(game))
            d = longest(game, tree)
            for number in range(d + 3):
                self.look_at(game, number, tree, number >= d)

    def test_a_longer_tree_than_needed(self):
        for deep in range(0, 14):
            tree = ASK
            for _ in range(deep):
                tree = ("ask", 1, tree, tree) if deep < 4 else ("ask", 0, tree, ("ask", 1, ("say", 0), ("say", 1)))
            d = longest(GAME, tree)
            for number in (d - 1, d, d + 1):
                self.look_at(GAME, number, tree, number >= d)

    def test_a_thing_led_to_another_label(self):
        rng = dice("led astray")
        let_by = 0
        for _ in range(200):
            game = draw_ending_game(rng, rng.randrange(1, 9), rng.randrange(1, 5), 4)
            tree = bent(slow_tree(game, everything(game)), rng)
            self.look_at(game, 20, tree, comes_home(game, tree))
            other = (tuple(label + 1 for label in game[0]), game[1])
            self.look_at(other, 20, slow_tree(game, everything(game)), False)
            let_by += comes_home(game, tree)
        self.assertEqual(let_by, 0)

    def test_just_one_thing_astray(self):
        game = singled_game(10)
        tree = slow_tree(game, everything(game))
        self.look_at(game, 9, tree, True)
        self.look_at(game, 8, tree, False)
        for thing in range(10):
            labels = game[0][:thing] + (99,) + game[0][thing + 1:]
            self.look_at((labels, game[1]), 9, tree, False)

    def test_branches_that_no_thing_comes_to(self):
        game = ((1, 1, 2), ((True, True, False), (True, True, True)))
        tree = ("ask", 1, long_tree(15), ("ask", 0, ("say", 2), ("say", 1)))
        self.look_at(game, 2, tree, True)
        self.look_at(game, 2, ("ask", 1, long_tree(16), ("ask", 0, ("say", 2), ("say", 1))), False)

    def test_what_is_no_tree_though_each_thing_comes_home(self):
        game = ((0, 0), ((True, False),))
        for tree, fits in ((long_tree(16), True), (long_tree(17), False), (sized_tree(999), True),
                           (sized_tree(1000), False), (doubled_tree(10), True), (doubled_tree(11), False)):
            self.look_at(game, 20, tree, fits)
        self.assertIs(lets_tree(game, 60, doubled_tree(59)), False)
        for bad in (["say", 0], ("say", False), ("ask", False, ("say", 0), ("say", 0)),
                    ("ask", 0, ["say", 0], ("say", 0)), ("ask", 1, ("say", 0), ("say", 0)),
                    ("ask", -1, ("say", 0), ("say", 0)), ("ask", 0, ("say", 0), ("say", 0), ())):
            self.look_at(game, 5, bad, False)

    def test_truths_are_no_labels(self):
        game = ((1, 0), ((True, False),))
        self.look_at(game, 1, ("ask", 0, ("say", 0), ("say", 1)), True)
        self.look_at(game, 1, ("ask", 0, ("say", False), ("say", 1)), False)
        self.look_at(game, 1, ("ask", 0, ("say", 0), ("say", True)), False)

    def test_other_plain_things(self):
        rng = dice("no trees let by")
        for thing in other_plain_things():
            for whole in (thing, ("say", thing), ("ask", 0, thing, ("say", 0)), ("ask", thing, ("say", 0), ("say", 0))):
                self.assertIs(lets_tree(GAME, 5, whole), False)
        for _ in range(1000):
            self.assertIs(lets_tree(GAME, rng.randrange(9), draw_plain(rng)), False)

    def test_whoever_wrote_it_so_many_asks_are_enough(self):
        rng = dice("enough")
        let_by = 0
        for _ in range(3000):
            game = draw_game(rng, rng.randrange(1, 4), rng.randrange(1, 3), 2)
            tree, d = draw_tree(rng, game, 4), rng.randrange(4)
            expected = comes_home(game, tree) and longest(game, tree) <= d
            self.look_at(game, d, tree, expected)
            if expected:
                let_by += 1
                self.assertTrue(are_enough(game, everything(game), d))
                self.assertLessEqual(slow_fewest(game, everything(game)), d)
        self.assertGreater(let_by, 200)


if __name__ == "__main__":
    unittest.main()
