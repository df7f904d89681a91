"""A sum times a sum, by their weights alone, and whether a sum times itself is 1."""

from flips.sums import weights_of
from flips.wholes import two_to


def is_one_squared(one):
    products = times(one, one)
    return products[0] == two_to(2 * one[0]) and all([product == 0 for product in products[1:]])


# For each set T, the sum, over all sets S, of S's weight times the other's of the switches in just one of S and T.
def times(one, other):
    weights = weights_of(other)
    return [met(one[1], weights, subset) for subset in range(len(weights))]


def met(terms, weights, apart):
    return sum([weight * weights[subset ^ apart] for subset, weight in terms])
