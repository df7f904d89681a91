"""Of the tables of fewer switches the one that differs from a sum's at the fewest places."""

from flips.places import sets_of
from flips.sums import times_signs, told, weights_within


# With their signs at a place the weights within the set come to the values of all places of the same setting, added
# up, times 2 to the number of the set's switches: below 0 where more of these places say yes than no.
def best_on(one, subset):
    table = tuple([top < 0 for top in times_signs(weights_within(one, subset))])
    return (table, differences(table, told(one)))


def differences(table, other):
    return len([place for place, answer in enumerate(table) if answer != other[place]])


# Sets rise, and of several with the fewest differences the first is taken.
def nearest(one, k):
    return min([best_on(one, subset) for subset in sets_of(one[0], k)], key=lambda found: found[1])
