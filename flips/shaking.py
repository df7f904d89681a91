"""What stays of a table under shaking, by its sum's levels."""

from flips.mattering import squares_by_level
from flips.shares import share_of
from flips.wholes import power_of, two_to


def stays(one, share):
    return stays_by(one[0], squares_by_level(one), share)


# Each part is brought over the bottom to the n, so that all of it is reckoned in whole numbers.
def stays_by(n, squares, share):
    bottom = share[1]
    less = bottom - 2 * share[0]
    parts = [
        level * power_of(less, many) * power_of(bottom, n - many)
        for many, level in enumerate(squares)
    ]
    whole = two_to(2 * n) * power_of(bottom, n)
    return share_of(whole + sum(parts), 2 * whole)


def once_for(one, other):
    added = one[0] * other[1] + other[0] * one[1]
    return share_of(added - 2 * one[0] * other[0], one[1] * other[1])
