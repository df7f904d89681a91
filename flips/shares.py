"""Shares: fractions in lowest terms."""


def share_of(top, bottom):
    divisor = common_divisor(abs(top), abs(bottom))
    # The bottom has to come out above 0, so a bottom below 0 gives its minus to the top.
    if bottom < 0:
        divisor = -divisor
    return (top // divisor, bottom // divisor)


def common_divisor(one, other):
    greater = one
    less = other
    while less > 0:
        rest = greater % less
        greater = less
        less = rest
    return greater
