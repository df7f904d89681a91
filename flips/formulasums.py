"""A formula's sum, made step by step by deeds on the sums of its formulas."""

from flips.deeds import both, odd, put, turned
from flips.wholes import two_to

# The sum of three switches that says yes where two at least are on.
MOST_ON = (3, ((1, 4), (2, 4), (4, 4), (7, -4)))


def sum_by(n, formula):
    # The value of "at i" is the sign of the set of switch i alone.
    if formula[0] == "at":
        return (n, ((two_to(formula[1]), two_to(n)),))
    return joined(n, formula[0], [sum_by(n, part) for part in formula[1:]])


def joined(n, word, sums):
    if word == "yes":
        return (n, ((0, -two_to(n)),))
    if word == "no":
        return (n, ((0, two_to(n)),))
    if word == "not":
        return turned(sums[0])
    if word == "both":
        return both(sums[0], sums[1])
    if word == "either":
        return turned(both(turned(sums[0]), turned(sums[1])))
    if word == "odd":
        return odd(sums[0], sums[1])
    return put(MOST_ON, sums)
