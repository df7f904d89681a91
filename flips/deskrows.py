"""The rows that a desk is told: which texts are rows, and what stands in them."""

from flips.errors import NoRow, NoText
from flips.formulatexts import read
from flips.places import is_place
from flips.wholes import is_below

# What stands behind the first word of a row; behind "find" it is only names, two to ten.
SHAPES = {
    "keep": ("name", "text"),
    "drop": ("name",),
    "names": (),
    "table": ("name",),
    "sum": ("name",),
    "matters": ("name", "place"),
    "stays": ("name", "number", "number"),
    "nearest": ("name", "k"),
    "fewest": ("name",),
    "ask": (),
    "answer": ("place", "truth"),
    "left": (),
}
FEWEST_FOUND = 2
MOST_FOUND = 10
MOST_LETTERS = 8
MOST_FIGURES = 9
GREATEST_K = 4
LETTERS = "abcdefghijklmnopqrstuvwxyz"
FIGURES = "0123456789"
TRUTHS = {"yes": True, "no": False}


# A tuple (word, names, others): the first word, the names behind it, and what else stands there, as it is meant.
def row_of(n, row):
    words = words_in(row)
    shape = shape_of(words)
    if shape is None or len(shape) != len(words) - 1:
        raise NoRow(row)
    things = [thing_of(n, kind, word) for kind, word in zip(shape, words[1:])]
    if None in things or (words[0] == "stays" and not is_part(things[1], things[2])):
        raise NoRow(row)
    names = [thing for kind, thing in zip(shape, things) if kind == "name"]
    return (words[0], names, things[len(names):])


# The text of a formula has blanks of its own, so it is left whole.
def words_in(row):
    return row.split(" ", 2) if row.startswith("keep ") else row.split(" ")


def shape_of(words):
    names = len(words) - 1
    if words[0] == "find" and FEWEST_FOUND <= names <= MOST_FOUND:
        return ("name",) * names
    return SHAPES.get(words[0])


# None where the word is none of that kind.
def thing_of(n, kind, word):
    if kind == "name":
        return word if is_name(word) else None
    if kind == "text":
        return formula_of(n, word)
    if kind == "truth":
        return TRUTHS.get(word)
    number = number_of(word)
    if kind == "place":
        return number if is_place(n, number) else None
    if kind == "k":
        return number if is_below(GREATEST_K + 1, number) else None
    return number


def is_name(word):
    return 1 <= len(word) <= MOST_LETTERS and all([letter in LETTERS for letter in word])


def number_of(word):
    if not 1 <= len(word) <= MOST_FIGURES or not all([figure in FIGURES for figure in word]):
        return None
    return int(word) if word == "0" or word[0] != "0" else None


def formula_of(n, text):
    try:
        return read(n, text)
    except NoText:
        return None


def is_part(top, bottom):
    return bottom >= 1 and top <= bottom
