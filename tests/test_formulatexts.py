import unittest

from flips.errors import NoText
from flips.formulas import is_formula
from flips.formulatexts import read, shown
from tests.helper import WORDS, dice, draw_formula, frozen

HAND = ("most", ("at", 0), ("not", ("at", 2)), ("odd", ("at", 1), ("yes",)))
HAND_TEXT = "most at 0 not at 2 odd at 1 yes"


def refused_at(n, words):
    """The number that a refusal has to have, None where there is none: by how many formulas each level still lacks."""
    lacking, begun = [1], 0
    number = 0
    while lacking:
        if number == len(words):
            return number
        depth = len(lacking)
        begun += 1
        if words[number] not in WORDS or begun > 20 or depth > 8:
            return number
        lacking[-1] -= 1
        if words[number] == "at":
            number += 1
            if number == len(words) or words[number] not in list("012345")[:n]:
                return number
        elif WORDS[words[number]]:
            lacking.append(WORDS[words[number]])
        number += 1
        while lacking and lacking[-1] == 0:
            lacking.pop()
    return number if number < len(words) else None


class Written(unittest.TestCase):
    def look_at(self, n, formula):
        text = shown(formula)
        self.assertIs(type(text), str)
        for more in range(n, 7):
            self.assertEqual(frozen(read(more, text)), frozen(formula))
        return text

    def test_by_hand(self):
        self.assertEqual(shown(HAND), HAND_TEXT)
        self.assertEqual(read(3, HAND_TEXT), HAND)
        self.look_at(3, HAND)

    def test_each_word(self):
        one, other = ("at", 0), ("not", ("yes",))
        pairs = [
            (("yes",), "yes"), (("no",), "no"), (one, "at 0"), (other, "not yes"),
            (("both", one, other), "both at 0 not yes"), (("both", other, one), "both not yes at 0"),
            (("either", one, other), "either at 0 not yes"), (("odd", other, one), "odd not yes at 0"),
            (("most", one, other, ("no",)), "most at 0 not yes no"),
        ]
        for formula, text in pairs:
            self.assertEqual(self.look_at(1, formula), text)
            self.assertEqual(self.look_at(1, ("not", formula)), "not " + text)

    def test_each_switch(self):
        for switch in range(6):
            self.assertEqual(self.look_at(switch + 1, ("at", switch)), "at " + str(switch))

    def test_drawn_formulas(self):
        rng = dice("written")
        for n in range(1, 7):
            for _ in range(60):
                self.look_at(n, draw_formula(rng, n, rng.randrange(1, 21), 8))
                self.look_at(n, draw_formula(rng, n, 20, 8))

    def test_at_the_edges_of_the_bounds(self):
        rng = dice("edges")
        deep = "not " * 7 + "at 5"
        self.assertEqual(self.look_at(6, read(6, deep)), deep)
        wide = "odd " * 7 + "at 0 " * 7 + "at 1"
        self.assertIs(is_formula(6, read(6, wide)), True)
        self.assertEqual(shown(read(6, wide)), wide)
        for _ in range(50):
            formula = ("most", ("yes",), draw_formula(rng, 6, 9, 7), draw_formula(rng, 6, 9, 7))
            self.look_at(6, formula)


class Refused(unittest.TestCase):
    def refusal(self, n, text):
        with self.assertRaises(NoText) as taken:
            read(n, text)
        self.assertIs(type(taken.exception), NoText)
        self.assertIs(type(taken.exception.at), int)
        return taken.exception.at

    def look_at(self, expected, text, n=6):
        self.assertEqual(self.refusal(n, text), expected, text)
        self.assertEqual(refused_at(n, text.split(" ")), expected, text)

    def test_no_words_with_signs(self):
        for blanks in range(6):
            self.look_at(0, " " * blanks)

    def test_blanks(self):
        self.look_at(0, " yes")
        self.look_at(0, " both yes no")
        self.look_at(1, "yes ")
        self.look_at(1, "yes  ")
        self.look_at(2, "at 0 ")
        self.look_at(1, "at  0")
        self.look_at(1, "both  yes no")
        self.look_at(2, "both yes  no")
        self.look_at(3, "both yes no ")
        self.look_at(1, "not ")
        self.look_at(1, "at ")
        for number in range(11):
            words = HAND_TEXT.split(" ")
            self.look_at(number, " ".join(words[:number] + [""] + words[number:]))

    def test_none_of_the_eight_words(self):
        wrong = ["Yes", "YES", "yess", "ye", "nO", "noo", "n", "At", "att", "a", "nott", "no.", "Both", "bot", "eithe",
                 "eithers", "ODD", "od", "mos", "mostly", "0", "5", "-", "~", "(yes)", "at0", "and", "x" * 300]
        for word in wrong:
            self.look_at(0, word)
            self.look_at(0, word + " yes yes yes")
            self.look_at(1, "not " + word)
            self.look_at(2, "both yes " + word)
            self.look_at(4, "most at 3 yes " + word + " no no no")

    def test_no_figure_of_a_switch(self):
        for n in range(1, 7):
            for switch in range(n, 13):
                self.look_at(1, "at " + str(switch), n)
                self.look_at(4, "both yes not at " + str(switch), n)
            last = "0" + str(n - 1)
            for word in ("00", "01", last, "10", "+0", "-1", "-0", "0.", "yes", "at", "not", "", "x", "0" * 250):
                self.look_at(1, "at " + word, n)
                self.look_at(3, "odd no at " + word, n)
                self.look_at(3, "odd no at " + word + " yes", n)
        self.look_at(1, "at at 0")

    def test_a_word_too_many(self):
        for word in list(WORDS) + ["0", "x", ""]:
            self.look_at(1, "yes " + word)
            self.look_at(2, "at 1 " + word)
            self.look_at(3, "both yes no " + word)
            self.look_at(3, "both yes no " + word + " yes")
            self.look_at(10, HAND_TEXT + " " + word)

    def test_words_that_lack(self):
        for word, parts in WORDS.items():
            for many in range(parts):
                self.look_at(1 + many, word + " yes" * many)
                self.look_at(1 + 2 * many, word + " at 0" * many)
        self.look_at(1, "at")
        self.look_at(3, "not not at")
        for number in range(1, 10):
            self.look_at(number, " ".join(HAND_TEXT.split(" ")[:number]))

    def test_where_the_twenty_first_formula_begins(self):
        seven = "most most yes yes yes yes yes"
        twenty = "most " + seven + " " + seven + " odd either yes yes yes"
        self.assertEqual(len(twenty.split(" ")), 20)
        self.assertIs(is_formula(1, read(1, twenty)), True)
        more = "most " + seven + " " + seven + " odd either yes yes not yes"
        self.look_at(20, more)
        self.look_at(20, "most " + seven + " " + seven + " odd either yes yes not odd yes yes")
        self.look_at(20, "most " + seven + " " + seven + " odd either yes yes not never")
        self.look_at(20, "most " + seven + " " + seven + " odd either yes yes not")
        self.look_at(20, twenty + " yes")
        far = "most " * 7 + "at 0 " * 15
        self.look_at(7 + 2 * 13, far[:-1])
        self.look_at(7 + 2 * 13, far + "yes yes")
        self.look_at(21, "most " + seven + " " + seven + " odd either at 0 yes not yes")

    def test_where_one_within_eight_others_begins(self):
        self.assertIs(is_formula(1, read(1, "not " * 7 + "yes")), True)
        self.look_at(8, "not " * 8 + "yes")
        self.look_at(8, "not " * 8 + "at 0")
        self.look_at(8, "not " * 8)
        self.look_at(8, ("not " * 8)[:-1])
        self.look_at(8, "not " * 30 + "yes")
        self.look_at(10, "both at 0 " + "not " * 7 + "yes")
        self.look_at(10, "both at 0 " + "not " * 7 + "at 0 0")
        self.look_at(8, "most " * 8 + "yes " * 17)

    def test_a_refusal_is_the_same_the_next_time(self):
        for text in ("both yes", "at 7", ""):
            self.assertEqual(self.refusal(3, text), self.refusal(3, text))

    def test_drawn_words(self):
        rng = dice("words")
        pool = list(WORDS) + ["at 0", "at 1", "at 5", "yes", "no", "both", "odd", "", "0", "6", "Yes"]
        seen = set()
        for _ in range(6000):
            n = rng.randrange(1, 7)
            if rng.random() < 0.5:
                text = " ".join(rng.choice(pool) for _ in range(rng.randrange(1, 12)))
            else:
                words = shown(draw_formula(rng, n, rng.randrange(1, 26), 10)).split(" ")
                number = rng.randrange(len(words))
                words[number:number + rng.randrange(2)] = rng.choice(([], [rng.choice(pool)]))
                text = " ".join(words)
            expected = refused_at(n, text.split(" "))
            seen.add(expected)
            if expected is None:
                self.assertEqual(shown(read(n, text)), text)
                self.assertIs(is_formula(n, read(n, text)), True)
            else:
                self.assertEqual(self.refusal(n, text), expected, text)
        self.assertGreater(len(seen), 20)


if __name__ == "__main__":
    unittest.main()
