"""Glances, some weights of a sum alone: what is told of one is so for every table whose sum has these weights."""

from flips.mattering import is_odd_with, odd_squares, over_all, squares_by_level
from flips.places import many_in, sets_of, within
from flips.shaking import stays_by
from flips.sums import has_terms, squares, weights_of
from flips.wholes import two_to


# A weight beyond 2 to the n is seen by its square alone, which is beyond 4 to the n.
def is_glance(thing):
    return has_terms(thing) and rest_of(thing) >= 0


def glance_of(one, sets):
    weights = weights_of(one)
    return (one[0], tuple([(subset, weights[subset]) for subset in sorted(set(sets))]))


# What the squares of the untold weights come to, in whichever of the untold sets they are.
def rest_of(glance):
    return two_to(2 * glance[0]) - squares(glance)


def untold_sets(glance):
    seen = [subset for subset, weight in glance[1]]
    return [subset for subset in range(two_to(glance[0])) if subset not in seen]


def matters_within(glance, subset):
    low = odd_squares(glance, subset)
    may_be_more = any([is_odd_with(each, subset) for each in untold_sets(glance)])
    high = low + rest_of(glance) if may_be_more else low
    return (over_all(glance, low), over_all(glance, high))


# The more switches a set has the less of its square stays, where the share is at most a half.
def stays_within(glance, share):
    untold = [many_in(subset) for subset in untold_sets(glance)]
    if len(untold) == 0:
        alone = stays_by(glance[0], squares_by_level(glance), share)
        return (alone, alone)
    return (stays_with_rest(glance, max(untold), share), stays_with_rest(glance, min(untold), share))


def stays_with_rest(glance, many, share):
    by_level = squares_by_level(glance)
    by_level[many] = by_level[many] + rest_of(glance)
    return stays_by(glance[0], by_level, share)


# At how many more places a table agrees than differs is its lead, the number of places less 2 * d. The lead's square
# is at most the squares within the table's switches; 0 is never beyond them, so no lead below 0 is come to.
def differ_at_least(glance, k):
    greatest = max([most_squares_within(glance, outer) for outer in sets_of(glance[0], k)])
    lead = two_to(glance[0])
    d = 0
    while lead * lead > greatest:
        lead = lead - 2
        d = d + 1
    return d


def most_squares_within(glance, outer):
    seen = sum([weight * weight for subset, weight in glance[1] if within(subset, outer)])
    if any([within(subset, outer) for subset in untold_sets(glance)]):
        return seen + rest_of(glance)
    return seen
