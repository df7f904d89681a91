"""Sums with signs: which things are sums, the sum of a table, and what a sum tells."""

from flips.errors import NoTable
from flips.places import is_place, sign, switches_of, within
from flips.shares import share_of
from flips.wholes import is_whole, two_to

MOST_SWITCHES = 6
HEAVIEST = 1000000000000


def is_sum(thing):
    return has_terms(thing) and all([0 < abs(weight) <= HEAVIEST for subset, weight in thing[1]])


# The form that sums and glances have in common; how great the weights may be is told of each.
def has_terms(thing):
    if not is_pair(thing) or not is_whole(thing[0]) or not isinstance(thing[1], tuple):
        return False
    return 1 <= thing[0] <= MOST_SWITCHES and are_terms(thing[0], thing[1])


def is_pair(thing):
    return isinstance(thing, tuple) and len(thing) == 2


def are_terms(n, terms):
    last = -1
    for term in terms:
        if not is_term(n, term) or term[0] <= last:
            return False
        last = term[0]
    return True


def is_term(n, thing):
    return is_pair(thing) and is_place(n, thing[0]) and is_whole(thing[1])


def sum_of(table):
    values = [-1 if answer else 1 for answer in table]
    return sum_from(switches_of(table), times_signs(values))


def comes_to(one, place):
    top = sum([weight * sign(subset, place) for subset, weight in one[1]])
    return share_of(top, two_to(one[0]))


def told(one):
    tops = times_signs(weights_of(one))
    bottom = two_to(one[0])
    if not all([abs(top) == bottom for top in tops]):
        raise NoTable("at some place the sum comes to neither 1 nor -1")
    return tuple([top < 0 for top in tops])


def squares(one):
    return sum([weight * weight for subset, weight in one[1]])


# One weight for each set, so that a set that is not in the sum can be asked for like any other.
def weights_of(one):
    weights = [0] * two_to(one[0])
    for subset, weight in one[1]:
        weights[subset] = weight
    return weights


# Weights of the sets that have a switch outside the given set count as 0.
def weights_within(one, outer):
    return [weight if within(subset, outer) else 0 for subset, weight in enumerate(weights_of(one))]


def sum_from(n, weights):
    return (n, tuple([(subset, weight) for subset, weight in enumerate(weights) if weight != 0]))


# Number k of the answer is the sum, over all j, of number j times the sign of j and k. A sign is a product of one
# factor a switch, so it is enough to go switch by switch over the numbers that differ in that switch alone.
def times_signs(numbers):
    sums = list(numbers)
    step = 1
    while step < len(sums):
        sums = [crossed(sums, step, place) for place in range(len(sums))]
        step = step * 2
    return sums


def crossed(numbers, step, place):
    if place // step % 2 == 1:
        return numbers[place - step] - numbers[place]
    return numbers[place] + numbers[place + step]
