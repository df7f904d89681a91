import unittest

from flips.trees import asked, is_tree
from tests.helper import FORTY, dice, doubled_tree, draw_ending_game, draw_game, draw_plain, draw_tree, frozen, \
    long_tree, other_plain_things, singled_game, sized_tree, slow_tree

GAME = ((0, 0, 0, 1), ((False, True, False, True), (False, False, True, True)))
ASK = ("ask", 0, ("say", 0), ("ask", 1, ("say", 0), ("say", 1)))


def measured(game, thing, deep=1):
    """How many trees there are in all and how many within one another, or None where something is no tree."""
    if type(thing) is not tuple or len(thing) not in (2, 4) or deep > 60:
        return None
    if len(thing) == 2:
        return (1, 1) if type(thing[0]) is str and thing[0] == "say" and type(thing[1]) is int else None
    if thing[0] != "ask" or type(thing[1]) is not int or not 0 <= thing[1] < len(game[1]):
        return None
    parts = [measured(game, part, deep + 1) for part in thing[2:]]
    return None if None in parts else (1 + sum(part[0] for part in parts), 1 + max(part[1] for part in parts))


def slow_is_tree(game, thing):
    """Point 44 word by word; not for things that, written out, have no end."""
    found = measured(game, thing)
    return found is not None and found[0] <= 2000 and found[1] <= 16


def replaced(tree, way, thing):
    """The tree with the thing put in where the way leads to."""
    if not way:
        return thing
    return tree[:way[0]] + (replaced(tree[way[0]], way[1:], thing),) + tree[way[0] + 1:]


def slow_asked(game, tree, thing):
    if tree[0] == "say":
        return (tree[1], 0)
    label, asks = slow_asked(game, tree[3] if game[1][tree[1]][thing] else tree[2], thing)
    return (label, asks + 1)


class IsTree(unittest.TestCase):
    def look_at(self, game, thing):
        ahead = frozen(thing)
        expected = slow_is_tree(game, thing)
        self.assertIs(is_tree(game, thing), expected)
        self.assertEqual(frozen(thing), ahead)
        return expected

    def test_by_hand(self):
        for tree in (("say", 0), ("say", 1), ("say", -5), ("say", FORTY), ASK, ("ask", 1, ASK, ASK)):
            self.assertIs(is_tree(GAME, tree), True)
            self.assertTrue(self.look_at(GAME, tree))

    def test_sixteen_within_one_another_and_seventeen(self):
        for deep in range(1, 17):
            self.assertIs(is_tree(GAME, long_tree(deep)), True)
        for deep in (17, 18, 30, 59):
            self.assertIs(is_tree(GAME, long_tree(deep)), False)
        for deep in (15, 16, 17):
            self.assertIs(is_tree(GAME, ("ask", 1, long_tree(deep), ("say", 3))), deep < 16)
            self.assertIs(is_tree(GAME, ("ask", 1, ("say", 3), long_tree(deep))), deep < 16)

    def test_two_thousand_in_all_and_more(self):
        for asks in (998, 999, 1000, 1001, 1500):
            self.assertEqual(measured(GAME, sized_tree(asks))[0], 2 * asks + 1)
            self.assertIs(is_tree(GAME, sized_tree(asks)), asks <= 999)
            self.assertIs(is_tree(GAME, sized_tree(asks)), self.look_at(GAME, sized_tree(asks)))

    def test_counted_as_often_as_they_stand(self):
        for deep in range(1, 17):
            self.assertIs(is_tree(GAME, doubled_tree(deep)), 2 ** deep - 1 <= 2000)
        self.assertIs(is_tree(GAME, doubled_tree(59)), False)
        half = sized_tree(499)
        self.assertIs(is_tree(GAME, ("ask", 0, half, half)), True)
        self.assertIs(is_tree(GAME, ("ask", 0, half, ("ask", 1, half, half))), False)
        self.assertIs(is_tree(GAME, ("ask", 0, half, sized_tree(500))), False)

    def test_questions(self):
        for rows in (1, 2, 16):
            game = draw_game(dice("questions"), 3, rows)
            for question in (-1, 0, 1, rows - 1, rows, rows + 1, 16, FORTY):
                fits = 0 <= question < rows
                self.assertIs(is_tree(game, ("ask", question, ("say", 0), ("say", 0))), fits)
                self.assertIs(is_tree(game, ("ask", 0, ("say", 0), ("ask", question, ("say", 0), ("say", 0)))), fits)
            for question in (True, False, None, "0", (0,), [0], {}, ("say", 0)):
                self.assertIs(is_tree(game, ("ask", question, ("say", 0), ("say", 0))), False)

    def test_labels(self):
        for label in (0, 1, 2, -1, FORTY, -FORTY):
            self.assertIs(is_tree(GAME, ("say", label)), True)
            self.assertIs(is_tree(GAME, ("ask", 1, ("say", 0), ("say", label))), True)
        for label in (True, False, None, "0", "", (0,), [0], {}, ("say", 0)):
            self.assertIs(is_tree(GAME, ("say", label)), False)
            self.assertIs(is_tree(GAME, ("ask", 1, ("say", 0), ("say", label))), False)
            self.assertIs(is_tree(GAME, ("ask", 1, ("say", label), ("say", 0))), False)

    def test_lists_for_tuples(self):
        for way in ((), (2,), (3,), (3, 2), (3, 3)):
            part = ASK
            for step in way:
                part = part[step]
            self.assertFalse(self.look_at(GAME, replaced(ASK, way, list(part))))
            self.assertFalse(self.look_at(GAME, replaced(ASK, way, dict(enumerate(part)))))

    def test_words_and_lengths(self):
        say = ("say", 0)
        for thing in ((), ("say",), ("say", 0, 0), ("say", 0, say, say), ("ask",), ("ask", 0), ("ask", 0, say),
                      ("ask", 0, say, say, say), ("ask", say, say), ("Say", 0), ("ask ", 0, say, say), ("", 0),
                      (0, "say"), (None, 0), (("say",), 0), (["say"], 0), ("tell", 0), (say, say), (say,),
                      (0, 0, say, say), ("ask", 0, say, None), ("ask", 0, 0, say), ("ask", 0, (), say), "say", "ask"):
            self.assertFalse(self.look_at(GAME, thing))
            self.assertFalse(self.look_at(GAME, ("ask", 0, say, thing)))
            self.assertFalse(self.look_at(GAME, ("ask", 0, thing, say)))

    def test_other_plain_things(self):
        rng = dice("no trees")
        for thing in other_plain_things():
            for whole in (thing, ("ask", 0, thing, ("say", 0)), ("ask", 0, ("say", 0), thing),
                          ("ask", thing, ("say", 0), ("say", 0)), (thing, 0)):
                self.assertIs(is_tree(GAME, whole), False)
        for _ in range(2000):
            self.look_at(GAME, draw_plain(rng))
            self.look_at(GAME, ("ask", rng.randrange(3), draw_plain(rng), ("say", 0)))
            self.look_at(GAME, ("say", draw_plain(rng)))

    def test_drawn_trees(self):
        rng = dice("trees")
        for _ in range(300):
            game = draw_game(rng, rng.randrange(1, 17), rng.randrange(1, 17))
            self.assertTrue(self.look_at(game, draw_tree(rng, game, rng.randrange(1, 9))))
            fewer = (game[0], game[1][:rng.randrange(1, len(game[1]) + 1)])
            self.look_at(fewer, draw_tree(rng, game, 4))


class Asked(unittest.TestCase):
    def look_at(self, game, tree):
        ahead = (frozen(game), frozen(tree))
        for thing in range(len(game[0])):
            self.assertEqual(frozen(asked(game, tree, thing)), frozen(slow_asked(game, tree, thing)))
        self.assertEqual((frozen(game), frozen(tree)), ahead)

    def test_by_hand(self):
        self.assertEqual([frozen(asked(GAME, ASK, thing)) for thing in range(4)],
                         [frozen(found) for found in ((0, 1), (0, 2), (0, 1), (1, 2))])
        self.assertEqual(frozen(asked(GAME, ("say", 9), 2)), frozen((9, 0)))
        self.assertEqual(frozen(asked(GAME, ("ask", 1, ("say", 3), ("say", 4)), 0)), frozen((3, 1)))
        self.assertEqual(frozen(asked(GAME, ("ask", 1, ("say", 3), ("say", 4)), 2)), frozen((4, 1)))

    def test_one_question_several_times(self):
        tree = ("ask", 0, ("ask", 0, ("say", 5), ("say", 6)), ("ask", 0, ("say", 7), ("say", 8)))
        self.assertEqual([asked(GAME, tree, thing) for thing in range(4)], [(5, 2), (8, 2), (5, 2), (8, 2)])

    def test_drawn(self):
        rng = dice("asked")
        for _ in range(200):
            game = draw_game(rng, rng.randrange(1, 17), rng.randrange(1, 17))
            self.look_at(game, draw_tree(rng, game, rng.randrange(1, 9)))

    def test_long_trees(self):
        for game in (GAME, singled_game(10)):
            for tree in (long_tree(16), doubled_tree(10), sized_tree(999)):
                self.look_at(game, tree)

    def test_best_trees_come_to_the_labels(self):
        rng = dice("best trees")
        for _ in range(30):
            game = draw_ending_game(rng, rng.randrange(1, 9), rng.randrange(1, 5))
            tree = slow_tree(game, tuple(range(len(game[0]))))
            self.look_at(game, tree)
            self.assertEqual(tuple(asked(game, tree, thing)[0] for thing in range(len(game[0]))), game[0])


if __name__ == "__main__":
    unittest.main()
