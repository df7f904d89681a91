"""Formulas written as words parted by single blanks, and read again."""

from flips.errors import NoText
from flips.formulas import is_too_large, parts_of


def shown(formula):
    return " ".join(words_of(formula))


def words_of(formula):
    if formula[0] == "at":
        return ["at", str(formula[1])]
    words = [formula[0]]
    for part in formula[1:]:
        words.extend(words_of(part))
    return words


def read(n, text):
    reader = Reader(n, text)
    formula = reader.take_formula(1)
    reader.take_end()
    return formula


# Goes over the words from the left, so that the first word that can not stand is the one refused.
class Reader:
    def __init__(self, n, text):
        self.figures = [str(switch) for switch in range(n)]
        self.words = text.split(" ")
        self.spot = 0
        self.begun = 0

    def next_word(self):
        if self.spot == len(self.words):
            raise NoText(self.spot)
        return self.words[self.spot]

    def take_formula(self, depth):
        word = self.next_word()
        parts = parts_of(word)
        self.begun = self.begun + 1
        if parts is None or is_too_large(self.begun, depth):
            raise NoText(self.spot)
        self.spot = self.spot + 1
        if word == "at":
            return ("at", self.take_switch())
        return tuple([word] + [self.take_formula(depth + 1) for part in range(parts)])

    def take_switch(self):
        word = self.next_word()
        if word not in self.figures:
            raise NoText(self.spot)
        self.spot = self.spot + 1
        return self.figures.index(word)

    def take_end(self):
        if self.spot < len(self.words):
            raise NoText(self.spot)
