"""Formulas of switches: which things are formulas, and the tables that they tell."""

from flips.nesting import keeps_to
from flips.places import is_on
from flips.wholes import is_below, two_to

# How many formulas stand behind each word.
PARTS = {"yes": 0, "no": 0, "at": 0, "not": 1, "both": 2, "either": 2, "odd": 2, "most": 3}
MOST_FORMULAS = 20
MOST_WITHIN = 8


# None where it is none of the eight words.
def parts_of(word):
    return PARTS.get(word)


def is_too_large(many, depth):
    return many > MOST_FORMULAS or depth > MOST_WITHIN


# Whether a thing begins as a formula does; what is within it is looked at by itself.
def has_form(n, thing):
    if not isinstance(thing, tuple) or len(thing) == 0 or not isinstance(thing[0], str):
        return False
    if thing[0] == "at":
        return len(thing) == 2 and is_below(n, thing[1])
    return thing[0] in PARTS and len(thing) == 1 + PARTS[thing[0]]


def formulas_within(formula):
    return () if formula[0] == "at" else formula[1:]


def is_formula(n, thing):
    return keeps_to(lambda part: has_form(n, part), formulas_within, is_too_large, thing)


def table_of(n, formula):
    return tuple([says_yes(formula, place) for place in range(two_to(n))])


def says_yes(formula, place):
    if formula[0] == "at":
        return is_on(place, formula[1])
    yeses = len([part for part in formulas_within(formula) if says_yes(part, place)])
    return joins_to_yes(formula[0], yeses)


def joins_to_yes(word, yeses):
    if word == "yes":
        return True
    if word == "not":
        return yeses == 0
    if word == "either":
        return yeses >= 1
    if word == "odd":
        return yeses == 1
    if word == "both" or word == "most":
        return yeses >= 2
    return False
