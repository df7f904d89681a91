"""Deeds on sums that tell tables: what they make tells what the deed makes of the tables.

A sum comes to -1 where its table says yes and to 1 where it says no, so a deed on answers is reckoning with these
values, and that is reckoning with weights. Every division here leaves nothing where the sums tell tables.
"""

from flips.selfsame import times
from flips.sums import sum_from, weights_of
from flips.wholes import two_to


def turned(one):
    return sum_from(one[0], [-weight for weight in weights_of(one)])


# The value of odd is the product of the two values.
def odd(one, other):
    whole = two_to(one[0])
    return sum_from(one[0], [weight // whole for weight in times(one, other)])


# Of values a and b that of both is half of 1 + a + b - a * b.
def both(one, other):
    products = weights_of(odd(one, other))
    doubles = [a + b - product for a, b, product in zip(weights_of(one), weights_of(other), products)]
    doubles[0] = doubles[0] + two_to(one[0])
    return sum_from(one[0], [double // 2 for double in doubles])


# With the switch fixed, a set with it has the sign of the set without it, turned where it is on: the two become one.
def fixed(one, switch, answer):
    weights = weights_of(one)
    bit = two_to(switch)
    turn = -1 if answer else 1
    wide = [subset for subset in range(len(weights)) if subset & bit == 0]
    return sum_from(one[0] - 1, [(weights[subset] + turn * weights[subset + bit]) // 2 for subset in wide])


# The sign of a set of f, where its switches are the answers of sums, is the value of the odd of these sums.
def put(one, sums):
    n = sums[0][0]
    signs = [(n, ((0, two_to(n)),))]
    for each in sums:
        signs = signs + [odd(sofar, each) for sofar in signs]
    weights = [0] * two_to(n)
    for subset, weight in one[1]:
        weights = [total + weight * more for total, more in zip(weights, weights_of(signs[subset]))]
    whole = two_to(one[0])
    return sum_from(n, [weight // whole for weight in weights])
