"""The checker of near papers: whether no table that hangs on at most k switches is nearer than the paper's.

It reads the weights of the sum alone, and asks for no answer of the table that the sum tells.
"""

from flips.mattering import hangs_on
from flips.places import is_place, is_table, many_in, sets_of, switches_of, within
from flips.selfsame import met
from flips.sums import is_pair, sum_of, times_signs, weights_of, weights_within
from flips.wholes import two_to

MOST_COVERS = 64


def lets_near(one, k, thing):
    if not has_paper_form(one[0], thing):
        return False
    total = sum_of(thing[0])
    lead = lead_of(one, total)
    if many_in(hangs_on(total)) > k or lead < 0:
        return False
    return covers_all(one[0], k, thing[1]) and all([is_so(one, lead, cover) for cover in thing[1]])


def has_paper_form(n, thing):
    if not is_pair(thing) or not is_table(thing[0]) or switches_of(thing[0]) != n:
        return False
    if not isinstance(thing[1], tuple) or len(thing[1]) > MOST_COVERS:
        return False
    return all([is_pair(cover) and is_place(n, cover[0]) for cover in thing[1]])


# At how many more places the two tables agree than differ: the number of places less 2 * d. That is the sum, over all
# places, of the product of their values; the products of their weights, added up, come to it times that number.
def lead_of(one, total):
    return met(one[1], weights_of(total), 0) // two_to(one[0])


def covers_all(n, k, covers):
    return all([any([within(subset, cover[0]) for cover in covers]) for subset in sets_of(n, k)])


# Each reason bounds the lead of every table within the cover: its square is at most the squares added up, and it is at
# most the absolute values added up, over 2 to the number of the cover's switches.
def is_so(one, lead, cover):
    weights = weights_within(one, cover[0])
    if cover[1] == "weights":
        return sum([weight * weight for weight in weights]) <= lead * lead
    if cover[1] == "whole":
        return setting_by_setting(weights, cover[0]) <= lead * two_to(many_in(cover[0]))
    return False


# A setting of the cover's switches is the place at which all others are off.
def setting_by_setting(weights, switches):
    return sum([abs(top) for setting, top in enumerate(times_signs(weights)) if within(setting, switches)])
