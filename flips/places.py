"""Places of switches, sets of switches, and tables of answers."""

from flips.wholes import is_below, two_to

TABLE_LENGTHS = (2, 4, 8, 16, 32, 64)


def is_place(n, thing):
    return is_below(two_to(n), thing)


def is_table(thing):
    if not isinstance(thing, tuple) or len(thing) not in TABLE_LENGTHS:
        return False
    return all([isinstance(answer, bool) for answer in thing])


def switches_of(table):
    return len(table).bit_length() - 1


def is_on(place, switch):
    return place // two_to(switch) % 2 == 1


def sign(subset, place):
    return -1 if many_in(subset & place) % 2 == 1 else 1


def within(subset, other):
    return subset & other == subset


def many_in(subset):
    many = 0
    rest = subset
    while rest > 0:
        many = many + rest % 2
        rest = rest // 2
    return many


def set_holding(members):
    return sum([two_to(member) for member in members])


def members_of(subset):
    return tuple([member for member in range(subset.bit_length()) if is_on(subset, member)])


# Rising; where there are no more than k switches, the set of all of them stands for the sets of k.
def sets_of(n, k):
    many = min(n, k)
    return [subset for subset in range(two_to(n)) if many_in(subset) == many]
