"""The checker of hard papers: whether no way of asking needs fewer asks at the worst.

It reckons no way of asking: it looks only whether each entry of the paper is borne by others.
"""

from flips.places import set_holding, within
from flips.sums import is_pair
from flips.wholes import is_below, is_whole


def lets_hard(game, d, thing):
    if not isinstance(thing, tuple) or not all([is_entry(game, entry) for entry in thing]):
        return False
    return max([entry[1] for entry in thing], default=0) >= d and Bearing(game, thing).bears_all()


def is_entry(game, thing):
    if not is_pair(thing) or not are_things(len(game[0]), thing[0]) or not is_whole(thing[1]):
        return False
    return thing[1] >= 1 and len(set([game[0][each] for each in thing[0]])) > 1


def are_things(many, thing):
    if not isinstance(thing, tuple):
        return False
    last = -1
    for each in thing:
        if not is_below(many, each) or each <= last:
            return False
        last = each
    return True


# Things are held as one whole number, like a set of switches. Of entries with the same things the greatest number is
# enough: what bears it bears the smaller ones.
class Bearing:
    def __init__(self, game, entries):
        self.yeses = [set_holding([each for each, answer in enumerate(row) if answer]) for row in game[1]]
        self.numbers = {}
        self.found = {}
        for entry in entries:
            things = set_holding(entry[0])
            self.numbers[things] = max(self.numbers.get(things, 0), entry[1])

    def bears_all(self):
        for things, number in self.numbers.items():
            if number > 1 and not all([self.bears(things, number, yes) for yes in self.yeses]):
                return False
        return True

    def bears(self, things, number, yes):
        left_by_yes = things & yes
        return self.has_within(left_by_yes, number - 1) or self.has_within(things - left_by_yes, number - 1)

    # Most often there is an entry of just these things; only where there is none all entries are gone through.
    def has_within(self, things, number):
        return self.numbers.get(things, 0) >= number or self.greatest_within(things) >= number

    # The greatest number of an entry whose things are all among these, 0 of none; kept, since many entries have the
    # same things left.
    def greatest_within(self, things):
        if things not in self.found:
            inside = [number for each, number in self.numbers.items() if within(each, things)]
            self.found[things] = max(inside, default=0)
        return self.found[things]
