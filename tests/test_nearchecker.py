import copy
import itertools
import unittest

from flips import nearchecker
from flips.nearchecker import lets_near
from tests.helper import SIGNS, all_tables, dice, differing, draw_plain, draw_table, drawn_names, frozen, hanging, \
    is_on, odd_table, other_plain_things, sets_with, slow_nearest, slow_sum, switches_in, table_on, table_with, \
    various_tables

BOTH = (False, False, False, True)
MOST = (False, False, False, True, False, True, True, True)


def is_within(subset, other):
    return all(is_on(other, switch) for switch in switches_in(subset))


def is_set(n, thing):
    return type(thing) is int and 0 <= thing < 2 ** n


def settings_of(subset):
    """The places at which no switch outside the set is on."""
    switches = switches_in(subset)
    return [sum(chosen) for many in range(len(switches) + 1)
            for chosen in itertools.combinations([2 ** switch for switch in switches], many)]


def is_reason_so(table, lead, subset, reason):
    inside = [(each, weight) for each, weight in slow_sum(table)[1] if is_within(each, subset)]
    if reason == "weights":
        return sum(weight ** 2 for _, weight in inside) <= lead ** 2
    if reason == "whole":
        tops = [sum(weight * SIGNS[each][setting] for each, weight in inside) for setting in settings_of(subset)]
        return sum(abs(top) for top in tops) <= lead * 2 ** len(switches_in(subset))
    return False


def slow_lets(table, k, thing):
    """Point 33 word by word, with the differences counted place by place."""
    n = len(table).bit_length() - 1
    if type(thing) is not tuple or len(thing) != 2 or type(thing[0]) is not tuple or len(thing[0]) != 2 ** n:
        return False
    if any(type(answer) is not bool for answer in thing[0]) or type(thing[1]) is not tuple or len(thing[1]) > 64:
        return False
    if not all(type(cover) is tuple and len(cover) == 2 and is_set(n, cover[0]) for cover in thing[1]):
        return False
    lead = 2 ** n - 2 * differing(table, thing[0])
    if len(switches_in(hanging(thing[0]))) > k or lead < 0:
        return False
    if not all(is_reason_so(table, lead, subset, reason) for subset, reason in thing[1]):
        return False
    return all(any(is_within(subset, cover[0]) for cover in thing[1]) for subset in sets_with(n, k))


def plain_paper(table, k):
    """The nearest table, each set of k switches a cover by itself."""
    n = len(table).bit_length() - 1
    return (slow_nearest(table, k)[0], tuple((subset, "whole") for subset in sets_with(n, k)))


def draw_paper(rng, table, k):
    """A paper that is often let by: some covers of more switches, each with a reason that is most often so."""
    n = len(table).bit_length() - 1
    near = rng.choice([slow_nearest(table, k)[0]] * 4 + [table_on(rng, n, rng.choice(sets_with(n, k))), table])
    lead = 2 ** n - 2 * differing(table, near)
    covers = []
    for _ in range(rng.randrange(8)):
        cover = (rng.randrange(2 ** n), rng.choice(("weights", "whole")))
        if is_reason_so(table, lead, *cover) or rng.random() < 0.02:
            covers.append(cover)
    for subset in sets_with(n, k):
        if not any(is_within(subset, cover[0]) for cover in covers) and rng.random() < 0.98:
            so = [reason for reason in ("weights", "whole") if is_reason_so(table, lead, subset, reason)]
            covers.append((subset, rng.choice(so or ["whole"])))
    rng.shuffle(covers)
    return (near, tuple(covers))


class LetsNear(unittest.TestCase):
    def look_at(self, table, k, thing):
        total = slow_sum(table)
        ahead = frozen(copy.deepcopy(thing))
        expected = slow_lets(table, k, thing)
        self.assertIs(lets_near(total, k, thing), expected)
        self.assertEqual(frozen(thing), ahead)
        self.assertEqual(total, slow_sum(table))
        return expected

    def let_by(self, table, k, thing):
        self.assertTrue(self.look_at(table, k, thing))

    def not_let_by(self, table, k, thing):
        self.assertFalse(self.look_at(table, k, thing))


class Papers(LetsNear):
    def test_plain_papers(self):
        rng = dice("plain papers")
        for n in (1, 2):
            for table in all_tables(n):
                for k in range(7):
                    self.let_by(table, k, plain_paper(table, k))
        for n in range(3, 7):
            for table in various_tables(rng, n, 1):
                for k in range(7):
                    self.let_by(table, k, plain_paper(table, k))

    def test_by_hand(self):
        no = (False,) * 4
        self.let_by(BOTH, 1, (no, ((1, "whole"), (2, "whole"))))
        self.not_let_by(BOTH, 1, (no, ((1, "weights"), (2, "weights"))))
        self.not_let_by(BOTH, 1, (no, ((3, "whole"),)))
        self.let_by(BOTH, 0, (no, ((0, "weights"),)))
        self.let_by(BOTH, 0, (no, ((1, "whole"),)))
        self.let_by(BOTH, 2, (BOTH, ((3, "weights"),)))
        self.let_by(BOTH, 6, (BOTH, ((3, "whole"),)))
        self.let_by(MOST, 2, ((False, True) * 4, ((3, "whole"), (5, "whole"), (6, "whole"))))
        self.not_let_by(MOST, 2, ((False, True) * 4, ((7, "whole"),)))

    def test_the_reason_weights_alone(self):
        for n in range(1, 7):
            for k in range(n):
                for answer in (True, False):
                    covers = tuple((subset, "weights") for subset in sets_with(n, k))
                    self.let_by(odd_table(n, 2 ** n - 1), k, ((answer,) * 2 ** n, covers))
                    everything = ((2 ** n - 1, "weights"),)
                    self.let_by((answer,) * 2 ** n, k, ((answer,) * 2 ** n, everything))

    def test_both_reasons_in_one_paper(self):
        covers = ((3, "whole"), (5, "weights"), (6, "weights"))
        seven = odd_table(3, 7)
        self.let_by(seven, 2, ((False,) * 8, covers))
        self.let_by(BOTH, 0, ((False,) * 4, ((0, "whole"), (0, "weights"))))
        self.let_by(BOTH, 1, ((False,) * 4, ((0, "weights"), (1, "whole"), (2, "whole"))))

    def test_one_cover_for_many_sets(self):
        odd = odd_table(6, 63)
        covers = tuple((63 - 2 ** switch, "weights") for switch in range(6))
        for k in range(6):
            self.let_by(odd, k, ((True,) * 64, covers))
        # A set of four switches lacks two, so it is within one of any five of these covers; a set of five is not.
        self.let_by(odd, 4, ((True,) * 64, covers[1:]))
        self.not_let_by(odd, 5, ((True,) * 64, covers[1:]))
        self.not_let_by(odd, 6, ((True,) * 64, covers))

    def test_half_of_the_places_and_more(self):
        odd = odd_table(2, 3)
        self.let_by(odd, 1, ((False, True, False, True), ((1, "weights"), (2, "whole"))))
        # The square of a lead below 0 would be great enough, so only the bound on d tells.
        yes, no = (True,) * 4, (False,) * 4
        self.let_by(yes, 1, (yes, ((3, "weights"),)))
        self.not_let_by(yes, 1, (no, ((3, "weights"),)))
        self.not_let_by(BOTH, 0, (yes, ((0, "weights"),)))
        self.not_let_by(odd, 2, (tuple(not answer for answer in odd), ((3, "weights"),)))

    def test_drawn_papers(self):
        rng = dice("drawn papers")
        found = {True: 0, False: 0}
        for _ in range(1500):
            n = rng.randrange(1, 7)
            table = rng.choice(various_tables(rng, n, 1))
            k = rng.randrange(7)
            found[self.look_at(table, k, draw_paper(rng, table, k))] += 1
        self.assertGreater(min(found.values()), 100)

    def test_one_cover_alone(self):
        """For no switch at all each cover is enough, so that just its reason tells."""
        rng = dice("one cover")
        found = {}
        for _ in range(600):
            n = rng.randrange(1, 7)
            table = rng.choice(various_tables(rng, n, 1) + [table_with(n, rng.sample(range(2 ** n), 2 ** n // 3))])
            for reason in ("weights", "whole"):
                paper = (slow_nearest(table, 0)[0], ((rng.randrange(2 ** n), reason),))
                key = (reason, self.look_at(table, 0, paper))
                found[key] = found.get(key, 0) + 1
        self.assertEqual(len(found), 4)
        self.assertGreater(min(found.values()), 50)


class NoNearerTable(LetsNear):
    """Whoever wrote it: where a paper is let by, no table of so few switches differs at fewer places."""

    def look_through(self, n, tables, many):
        rng = dice("no nearer")
        others = [(other, len(switches_in(hanging(other)))) for other in all_tables(n)]
        let_by = 0
        for table in tables:
            total = slow_sum(table)
            fewest = [min(differing(table, other) for other, hung in others if hung <= k) for k in range(n + 1)]
            for k in range(n + 1):
                for near in self.nears(rng, n, table, k, many):
                    lead = 2 ** n - 2 * differing(table, near)
                    so = [(subset, reason) for subset in range(2 ** n) for reason in ("weights", "whole")
                          if is_reason_so(table, lead, subset, reason)]
                    paper = (near, tuple(so))
                    if lets_near(total, k, paper):
                        let_by += 1
                        self.assertGreaterEqual(fewest[k], differing(table, near))
        self.assertGreater(let_by, len(tables))

    def nears(self, rng, n, table, k, many):
        if n < 3:
            return all_tables(n)
        return [slow_nearest(table, k)[0]] + [table_on(rng, n, rng.choice(sets_with(n, k))) for _ in range(many)]

    def test_one_and_two_switches(self):
        for n in (1, 2):
            self.look_through(n, all_tables(n), 0)

    def test_three_switches(self):
        rng = dice("three")
        self.look_through(3, rng.sample(all_tables(3), 60), 4)


class Bent(LetsNear):
    def setUp(self):
        self.rng = dice("bent")
        self.cases = []
        for n in range(1, 7):
            for k in range(7):
                table = draw_table(self.rng, n)
                paper = plain_paper(table, k)
                self.assertIs(lets_near(slow_sum(table), k, paper), True)
                self.cases.append((n, k, table, paper))

    def test_a_list_for_a_tuple(self):
        for n, k, table, (near, covers) in self.cases:
            spot = self.rng.randrange(len(covers))
            for thing in (
                [near, covers], (list(near), covers), (near, list(covers)),
                (near, covers[:spot] + (list(covers[spot]),) + covers[spot + 1:]),
                (near, dict(covers)), {0: near, 1: covers},
            ):
                self.not_let_by(table, k, thing)

    def test_a_number_for_a_truth(self):
        for n, k, table, (near, covers) in self.cases:
            spot = self.rng.randrange(len(near))
            for thing in (int(near[spot]), None, str(near[spot]), (near[spot],)):
                self.not_let_by(table, k, (near[:spot] + (thing,) + near[spot + 1:], covers))

    def test_a_truth_for_a_number(self):
        no = (False,) * 4
        self.let_by(BOTH, 1, (no, ((1, "whole"), (2, "whole"))))
        self.not_let_by(BOTH, 1, (no, ((True, "whole"), (2, "whole"))))
        self.not_let_by(BOTH, 1, (no, ((1, "whole"), (2, "whole"), (True, "whole"))))
        for n, k, table, (near, covers) in self.cases:
            for truth in (True, False):
                self.not_let_by(table, k, (near, covers + ((truth, "whole"),)))

    def test_other_lengths(self):
        for n, k, table, (near, covers) in self.cases:
            for thing in (
                (), (near,), (covers,), (near, covers, ()), (near, covers, None), (covers, near), (near, near),
                (near, covers + ((),)), (near, covers + ((0,),)), (near, covers + ((0, "whole", "whole"),)),
                (near, covers + (0,)), (near, covers + ("whole",)), (near, covers + (("whole", 0),)),
            ):
                self.not_let_by(table, k, thing)
            self.not_let_by(table, k, (near, ()))
            self.let_by(table, k, (near, covers + covers))

    def test_a_table_of_other_switches(self):
        for n, k, table, (near, covers) in self.cases:
            self.not_let_by(table, k, (near + near, covers))
            self.not_let_by(table, k, (near[:len(near) // 2], covers))
            self.not_let_by(table, k, (near[:-1], covers))
            self.not_let_by(table, k, (near + near[:1], covers))
            for length in (0, 1, 2 ** 7, 2 ** 10):
                self.not_let_by(table, k, ((False,) * length, covers))

    def test_a_table_that_hangs_on_one_switch_more(self):
        for n in range(2, 7):
            for k in range(1, n):
                subset = 2 ** (k + 1) - 1
                table = odd_table(n, subset)
                covers = ((2 ** n - 1, "whole"), (2 ** n - 1, "weights"))
                self.let_by(table, k + 1, (table, covers))
                self.not_let_by(table, k, (table, covers))
        for n in range(1, 7):
            self.not_let_by(odd_table(n, 1), 0, (odd_table(n, 1), ((2 ** n - 1, "whole"),)))

    def test_a_table_that_differs_at_too_many_places(self):
        for n in range(1, 7):
            for k in range(n + 1):
                table = table_on(self.rng, n, self.rng.choice(sets_with(n, k)))
                covers = tuple((subset, "whole") for subset in sets_with(n, k))
                self.let_by(table, k, (table, covers))
                if k == n:
                    one_more = tuple(answer is not (place == 0) for place, answer in enumerate(table))
                    self.not_let_by(table, k, (one_more, covers))
                self.not_let_by(table, k, (tuple(not answer for answer in table), covers))

    def test_a_set_beyond_the_switches(self):
        for n, k, table, (near, covers) in self.cases:
            for subset in (-1, 2 ** n, 2 ** n + 1, 64, 10 ** 39, -(2 ** n), None, "0", (0,), [0], {}, "whole"):
                for reason in ("weights", "whole"):
                    self.not_let_by(table, k, (near, covers + ((subset, reason),)))
                    self.not_let_by(table, k, (near, ((subset, reason),)))

    def test_another_reason(self):
        others = ["", "weight", "Whole", "whole ", " weights", "wholes", "x" * 5000, None, True, False, 0, 1,
                  [], ["whole"], ("whole",), {}, {"whole": "weights"}, ("weights", "whole")]
        for n, k, table, (near, covers) in self.cases:
            spot = self.rng.randrange(len(covers))
            for reason in others:
                self.not_let_by(table, k, (near, covers + ((0, reason),)))
                self.not_let_by(table, k, (near, covers[:spot] + ((covers[spot][0], reason),) + covers[spot + 1:]))

    def test_a_reason_that_is_not_so_beside_others_that_are(self):
        seen = {"weights": 0, "whole": 0}
        for n, k, table, (near, covers) in self.cases:
            lead = 2 ** n - 2 * differing(table, near)
            for subset in range(2 ** n):
                for reason in ("weights", "whole"):
                    spot = self.rng.randrange(len(covers) + 1)
                    thing = (near, covers[:spot] + ((subset, reason),) + covers[spot:])
                    so = is_reason_so(table, lead, subset, reason)
                    self.assertIs(self.look_at(table, k, thing), so)
                    seen[reason] += not so
        self.assertGreater(min(seen.values()), 50)

    def test_a_set_within_no_cover(self):
        for n, k, table, (near, covers) in self.cases:
            for spot in range(len(covers)):
                self.not_let_by(table, k, (near, covers[:spot] + covers[spot + 1:]))
                less = covers[spot][0] & (covers[spot][0] - 1)
                if less != covers[spot][0]:
                    self.not_let_by(table, k, (near, covers[:spot] + ((less, "whole"),) + covers[spot + 1:]))

    def test_sixty_four_covers_and_one_more(self):
        for n, k, table, (near, covers) in self.cases:
            filled = (covers * 64)[:64]
            self.let_by(table, k, (near, filled))
            self.not_let_by(table, k, (near, filled + covers[:1]))
            self.not_let_by(table, k, (near, filled * 30))

    def test_other_plain_things(self):
        things = other_plain_things()
        for n, k, table, (near, covers) in self.rng.sample(self.cases, 6):
            total = slow_sum(table)
            # Some of these, written out, have no end, so they are not gone through here.
            for thing in things:
                for whole in (thing, (near, thing), (thing, covers), (near, covers + (thing,)),
                              (near, covers + ((0, thing),)), (near, covers + ((thing, "whole"),))):
                    self.assertIs(lets_near(total, k, whole), False)
            for _ in range(300):
                self.look_at(table, k, draw_plain(self.rng))
                self.look_at(table, k, (near, draw_plain(self.rng)))
                self.look_at(table, k, (near, covers + (draw_plain(self.rng),)))


class ReadsTheSumAlone(unittest.TestCase):
    def test_no_answer_of_the_sums_table_is_asked_for(self):
        for name in ("told", "comes_to", "best_on", "nearest", "differences", "matters_at", "near_paper"):
            self.assertNotIn(name, drawn_names(nearchecker))


if __name__ == "__main__":
    unittest.main()
