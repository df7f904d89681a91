"""Whole numbers: what the other modules share."""


# Python counts a truth as a number; here it is none.
def is_whole(thing):
    return isinstance(thing, int) and not isinstance(thing, bool)


def is_below(bound, thing):
    return is_whole(thing) and 0 <= thing < bound


def two_to(n):
    return power_of(2, n)


def power_of(base, times):
    power = 1
    for step in range(times):
        power = power * base
    return power
