"""Near papers of a sum's own, and the fewest switches that are near enough."""

from flips.nearest import nearest
from flips.places import sets_of


# Each set of k switches is a cover by itself. The reason "whole" is so there: setting by setting no table within it
# does better than its best one, and that differs at no fewer places than the nearest.
def near_paper(one, k):
    covers = [(subset, "whole") for subset in sets_of(one[0], k)]
    return (nearest(one, k)[0], tuple(covers))


def fewest_switches(one, most):
    enough = [k for k in range(one[0] + 1) if nearest(one, k)[1] <= most]
    k = enough[0]
    paper = None if k == 0 else near_paper(one, k - 1)
    return (k, nearest(one, k)[0], paper)
