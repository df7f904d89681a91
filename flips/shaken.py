"""Shaking gone through: the places that a place comes to, and what stays of a table there."""

from flips.places import many_in, switches_of
from flips.shares import share_of
from flips.wholes import power_of, two_to


def ways(n, place, share):
    bottom = power_of(share[1], n)
    found = {}
    for other, top in enumerate(tops_from(n, place, share)):
        if top > 0:
            found[other] = share_of(top, bottom)
    return found


def stays_at(table, place, share):
    n = switches_of(table)
    kept = [top for top, answer in zip(tops_from(n, place, share), table) if answer == table[place]]
    return share_of(sum(kept), power_of(share[1], n))


# All ways over one bottom, that of the share to the n, so that they can be added up as whole numbers.
def tops_from(n, place, share):
    return [top_of(n, many_in(place ^ other), share) for other in range(two_to(n))]


def top_of(n, turned, share):
    return power_of(share[0], turned) * power_of(share[1] - share[0], n - turned)
