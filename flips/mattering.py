"""How much switches matter, by the squares of a sum's weights."""

from flips.places import many_in, sign
from flips.shares import share_of
from flips.wholes import two_to


def matters(one, subset):
    return over_all(one, odd_squares(one, subset))


def odd_squares(one, subset):
    return sum([weight * weight for each, weight in one[1] if is_odd_with(each, subset)])


# A set has an odd number of switches in common with another one just where its sign there is -1.
def is_odd_with(one, other):
    return sign(one, other) == -1


def hangs_on(one):
    switches = 0
    for subset, weight in one[1]:
        switches = switches | subset
    return switches


# A set's square counts for each of its switches, since it has just that one in common with it.
def altogether(one):
    return over_all(one, sum([many_in(subset) * weight * weight for subset, weight in one[1]]))


def levels(one):
    return [over_all(one, level) for level in squares_by_level(one)]


def squares_by_level(one):
    found = [0] * (one[0] + 1)
    for subset, weight in one[1]:
        many = many_in(subset)
        found[many] = found[many] + weight * weight
    return found


def over_all(one, squares):
    return share_of(squares, two_to(2 * one[0]))
