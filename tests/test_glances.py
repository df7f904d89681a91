import itertools
import unittest
from fractions import Fraction

from flips.glances import differ_at_least, glance_of, is_glance, matters_within, stays_within
from tests.helper import FORTY, all_tables, as_share, dice, draw_plain, draw_table, frozen, odd_table, \
    other_plain_things, sets_with, shaking_shares, shaking_tops, sign_at, slow_nearest, slow_sum, switches_in, \
    various_tables

BOTH = (2, ((0, 2), (1, 2), (2, 2), (3, -2)))


def is_number(thing):
    return type(thing) is int


def slow_is_glance(thing):
    """Point 37 word by word."""
    if type(thing) is not tuple or len(thing) != 2 or not is_number(thing[0]) or not 1 <= thing[0] <= 6:
        return False
    n, terms = thing
    if type(terms) is not tuple or not all(type(term) is tuple and len(term) == 2 for term in terms):
        return False
    if not all(is_number(subset) and is_number(weight) for subset, weight in terms):
        return False
    if not all(0 <= subset < 2 ** n and -(2 ** n) <= weight <= 2 ** n for subset, weight in terms):
        return False
    sets = [subset for subset, weight in terms]
    return sets == sorted(set(sets)) and sum(weight ** 2 for subset, weight in terms) <= 4 ** n


def glance_at(table, sets):
    n, terms = slow_sum(table)
    return (n, tuple((subset, dict(terms).get(subset, 0)) for subset in range(2 ** n) if subset in sets))


def rest(glance):
    return 4 ** glance[0] - sum(weight ** 2 for subset, weight in glance[1])


def untold(glance):
    return [subset for subset in range(2 ** glance[0]) if subset not in dict(glance[1])]


def slow_matters(glance, subset):
    low = sum(weight ** 2 for each, weight in glance[1] if sign_at(each, subset) == -1)
    more = rest(glance) if any(sign_at(each, subset) == -1 for each in untold(glance)) else 0
    return tuple(as_share(Fraction(squares, 4 ** glance[0])) for squares in (low, low + more))


def slow_stays(glance, share):
    shrink = 1 - 2 * Fraction(*share)
    x = sum(weight ** 2 * shrink ** len(switches_in(subset)) for subset, weight in glance[1])
    many = sorted(len(switches_in(subset)) for subset in untold(glance))
    found = [x + rest(glance) * shrink ** power for power in (many[-1], many[0])] if many else [x, x]
    return tuple(as_share((1 + each / 4 ** glance[0]) / 2) for each in found)


def slow_differ(glance, k):
    n = glance[0]
    found = []
    for outer in sets_with(n, k):
        inside = [subset for subset in range(2 ** n) if not set(switches_in(subset)) - set(switches_in(outer))]
        squares = sum(dict(glance[1]).get(subset, 0) ** 2 for subset in inside)
        found.append(squares + (rest(glance) if set(inside) & set(untold(glance)) else 0))
    return next(d for d in itertools.count() if 2 ** n - 2 * d < 0 or (2 ** n - 2 * d) ** 2 <= max(found))


def share_mattering(table, subset):
    return Fraction(sum(table[place] is not table[place ^ subset] for place in range(len(table))), len(table))


def share_staying(table, share):
    n = len(table).bit_length() - 1
    tops = shaking_tops(n, share)
    kept = sum(top for place in range(2 ** n) for turned, top in enumerate(tops)
               if table[place] is table[place ^ turned])
    return Fraction(kept, 2 ** n * share[1] ** n)


def up_to_a_half(rng):
    halves = [(FORTY // 2, FORTY), (10 ** 39, 2 * 10 ** 39 + 1), (1, 2), (0, 1)]
    return halves + [share for share in shaking_shares(rng) if 2 * share[0] <= share[1]]


def drawn_sets(rng, n):
    """No set, all sets, all but one, one alone, and some between."""
    whole = list(range(2 ** n))
    lone = rng.randrange(2 ** n)
    some = [rng.sample(whole, rng.randrange(1, 2 ** n)) for _ in range(3)]
    return [[], whole, [subset for subset in whole if subset != lone], [lone]] + some


def draw_glance(rng, n):
    """Any glance, perhaps of no sum."""
    weights = {}
    left = 4 ** n
    for subset in rng.sample(range(2 ** n), rng.randrange(2 ** n + 1)):
        most = max(weight for weight in range(2 ** n + 1) if weight ** 2 <= left)
        weights[subset] = rng.choice((0, most, -most, rng.randrange(-most, most + 1)))
        left -= weights[subset] ** 2
    return (n, tuple(sorted(weights.items())))


class IsGlance(unittest.TestCase):
    def look_at(self, thing):
        expected = slow_is_glance(thing)
        ahead = frozen(thing)
        self.assertIs(is_glance(thing), expected)
        self.assertEqual(frozen(thing), ahead)
        return expected

    def test_by_hand(self):
        for thing in (BOTH, (1, ()), (6, ()), (1, ((0, 0),)), (1, ((1, 2),)), (1, ((0, -2),)), (2, ((3, -4),)),
                      (1, ((0, 1), (1, 1))), (2, ((0, 0), (1, 0), (2, 0), (3, 0))), (2, ((1, 3), (2, 2)))):
            self.assertIs(is_glance(thing), True)

    def test_weights_at_the_edges_and_beyond(self):
        for n in range(1, 7):
            for weight in (0, 1, 2 ** n - 1, 2 ** n):
                for signed in (weight, -weight):
                    self.assertIs(is_glance((n, ((0, signed),))), True)
                    self.assertIs(is_glance((n, ((2 ** n - 1, signed),))), True)
            for weight in (2 ** n + 1, 2 ** n + 2, 4 ** n, 10 ** 12, FORTY):
                for signed in (weight, -weight):
                    self.assertIs(is_glance((n, ((0, signed),))), False)

    def test_squares_that_come_to_all_and_to_more(self):
        for n in range(1, 7):
            half = 2 ** (n - 1)
            self.assertIs(is_glance((n, ((0, 2 ** n), (1, 0)))), True)
            self.assertIs(is_glance((n, ((0, 2 ** n), (1, 1)))), False)
            self.assertIs(is_glance((n, ((0, -1), (1, -(2 ** n))))), False)
            if n > 1:
                self.assertIs(is_glance((n, ((0, half), (1, -half), (2, half), (3, half)))), True)
                self.assertIs(is_glance((n, ((0, half), (1, -half), (2, half), (3, half + 1)))), False)
            self.assertIs(is_glance((n, tuple((subset, 1) for subset in range(2 ** n)))), True)

    def test_sets_that_fall_or_stand_twice_or_lie_beyond(self):
        for n in range(1, 7):
            self.assertIs(is_glance((n, ((0, 1), (1, 1)))), True)
            for sets in ((1, 0), (0, 0), (1, 1), (-1, 0), (0, 2 ** n), (2 ** n,), (-1,), (64,), (FORTY,)):
                self.assertIs(is_glance((n, tuple((subset, 1) for subset in sets))), False)
                self.assertIs(is_glance((n, tuple((subset, 0) for subset in sets))), False)

    def test_switches(self):
        for n in (0, 7, -1, True, None, "2", (2,), [2], 10 ** 39):
            self.assertIs(is_glance((n, ())), False)
            self.assertIs(is_glance((n, ((0, 1),))), False)

    def test_kinds_within(self):
        terms = ((0, 1), (1, -1))
        for thing in ([2, terms], (2, list(terms)), (2, ([0, 1], (1, -1))), (2, dict(terms)), {2: terms}, (2,),
                      (2, terms, ()), (2, terms + ((),)), (2, terms + ((2,),)), (2, terms + ((2, 1, 1),)),
                      (2, ((False, 1), (1, 1))), (2, ((0, True), (1, 1))), (2, ((0, False),)), (2, ((0, 1), (True, 1))),
                      (2, ((0, None),)), (2, ((None, 0),)), (2, ((0, "1"),)), (2, (("0", 1),)), (2, ((0, (1,)),))):
            self.assertFalse(self.look_at(thing))

    def test_other_plain_things(self):
        rng = dice("no glances")
        for thing in other_plain_things():
            self.assertIs(is_glance(thing), False)
            for whole in ((2, thing), (2, (thing,)), (2, ((0, thing),)), (2, ((thing, 0),)), (thing, ())):
                self.assertIs(is_glance(whole), slow_is_glance(whole))
        for _ in range(2000):
            self.look_at(draw_plain(rng))
            self.look_at((rng.randrange(8), draw_plain(rng)))

    def test_drawn_glances_bent(self):
        rng = dice("bent glances")
        found = {True: 0, False: 0}
        for _ in range(1500):
            n, terms = draw_glance(rng, rng.randrange(1, 5))
            self.assertTrue(self.look_at((n, terms)))
            spot = rng.randrange(len(terms)) if terms else 0
            more = (rng.randrange(-1, 2 ** n + 1), rng.randrange(-(2 ** n) - 1, 2 ** n + 2))
            found[self.look_at((n, terms[:spot] + (more,) + terms[spot:]))] += 1
            found[self.look_at((n, terms[:spot] + (more,) + terms[spot + 1:]))] += 1
            found[self.look_at((n + 1, terms))] += 1
            found[self.look_at((n - 1, terms))] += 1
        self.assertGreater(min(found.values()), 500)


class GlanceOf(unittest.TestCase):
    def test_by_hand(self):
        self.assertEqual(frozen(glance_of(BOTH, [3, 0, 3, 0])), frozen((2, ((0, 2), (3, -2)))))
        self.assertEqual(frozen(glance_of(BOTH, [])), frozen((2, ())))
        self.assertEqual(frozen(glance_of((1, ((1, 2),)), [0, 1])), frozen((1, ((0, 0), (1, 2)))))
        self.assertEqual(frozen(glance_of((3, ((7, 8),)), [6, 7, 1])), frozen((3, ((1, 0), (6, 0), (7, 8)))))

    def test_several_times_and_out_of_order(self):
        rng = dice("glance of")
        for n in range(1, 7):
            for table in various_tables(rng, n, 1):
                for many in (0, 1, 2, 5, 66):
                    sets = [rng.randrange(2 ** n) for _ in range(many)]
                    kept = list(sets)
                    total = slow_sum(table)
                    found = glance_of(total, sets)
                    self.assertEqual(frozen(found), frozen(glance_at(table, kept)))
                    self.assertIs(is_glance(found), True)
                    self.assertEqual(frozen(sets), frozen(kept))
                    self.assertEqual(total, slow_sum(table))

    def test_all_sets(self):
        rng = dice("whole glances")
        for n in range(1, 7):
            table = draw_table(rng, n)
            sets = list(range(2 ** n))
            rng.shuffle(sets)
            found = glance_of(slow_sum(table), sets)
            self.assertEqual(len(found[1]), 2 ** n)
            self.assertEqual(tuple(term for term in found[1] if term[1]), slow_sum(table)[1])


class OfAGlance(unittest.TestCase):
    def look_at(self, table, glance, subset, share, k):
        """What is told is what the document reckons, and it is so for the table."""
        matter = matters_within(glance, subset)
        self.assertEqual(frozen(matter), frozen(slow_matters(glance, subset)))
        self.assertLessEqual(Fraction(*matter[0]), share_mattering(table, subset))
        self.assertGreaterEqual(Fraction(*matter[1]), share_mattering(table, subset))
        stay = stays_within(glance, share)
        self.assertEqual(frozen(stay), frozen(slow_stays(glance, share)))
        self.assertLessEqual(Fraction(*stay[0]), share_staying(table, share))
        self.assertGreaterEqual(Fraction(*stay[1]), share_staying(table, share))
        differ = differ_at_least(glance, k)
        self.assertEqual(frozen(differ), frozen(slow_differ(glance, k)))
        self.assertLessEqual(differ, slow_nearest(table, k)[1])

    def test_all_tables_and_all_glances_of_one_and_two_switches(self):
        rng = dice("small glances")
        shares = up_to_a_half(rng)
        for n in (1, 2):
            for table in all_tables(n):
                for number in range(2 ** 2 ** n):
                    glance = glance_at(table, [subset for subset in range(2 ** n) if number // 2 ** subset % 2])
                    for subset in range(2 ** n):
                        self.look_at(table, glance, subset, rng.choice(shares), rng.randrange(7))

    def test_three_and_four_switches(self):
        rng = dice("middle glances")
        shares = up_to_a_half(rng)
        for n in (3, 4):
            for table in various_tables(rng, n, 3):
                for sets in drawn_sets(rng, n):
                    for subset in range(2 ** n):
                        self.look_at(table, glance_at(table, sets), subset, rng.choice(shares), rng.randrange(7))

    def test_five_and_six_switches(self):
        rng = dice("great glances")
        shares = up_to_a_half(rng)
        for n in (5, 6):
            for table in [draw_table(rng, n), odd_table(n, 2 ** n - 2)]:
                for sets in drawn_sets(rng, n):
                    self.look_at(table, glance_at(table, sets), rng.randrange(2 ** n), rng.choice(shares),
                                 rng.randrange(7))

    def test_glances_of_no_table(self):
        rng = dice("drawn glances")
        shares = up_to_a_half(rng)
        for _ in range(400):
            n = rng.randrange(1, 7)
            glance = draw_glance(rng, n)
            subset, share, k = rng.randrange(2 ** n), rng.choice(shares), rng.randrange(7)
            self.assertEqual(frozen(matters_within(glance, subset)), frozen(slow_matters(glance, subset)))
            self.assertEqual(frozen(stays_within(glance, share)), frozen(slow_stays(glance, share)))
            self.assertEqual(frozen(differ_at_least(glance, k)), frozen(slow_differ(glance, k)))

    def test_no_set_told(self):
        for n in range(1, 7):
            glance = (n, ())
            self.assertEqual(frozen(matters_within(glance, 0)), frozen(((0, 1), (0, 1))))
            for subset in range(1, 2 ** n):
                self.assertEqual(frozen(matters_within(glance, subset)), frozen(((0, 1), (1, 1))))
            self.assertEqual(frozen(stays_within(glance, (0, 1))), frozen(((1, 1), (1, 1))))
            self.assertEqual(frozen(stays_within(glance, (1, 2))), frozen(((1, 2), (1, 1))))
            self.assertEqual(frozen(stays_within(glance, (1, 4))), frozen(((2 ** n + 1, 2 ** (n + 1)), (1, 1))))
            for k in range(7):
                self.assertEqual(frozen(differ_at_least(glance, k)), frozen(0))

    def test_all_sets_told(self):
        rng = dice("all told")
        for n in range(1, 7):
            for table in various_tables(rng, n, 1)[:6]:
                glance = glance_at(table, range(2 ** n))
                for subset in rng.sample(range(2 ** n), 2):
                    alone = as_share(share_mattering(table, subset))
                    self.assertEqual(frozen(matters_within(glance, subset)), frozen((alone, alone)))
                share = rng.choice(up_to_a_half(rng))
                alone = as_share(share_staying(table, share))
                self.assertEqual(frozen(stays_within(glance, share)), frozen((alone, alone)))
                for k in range(n, 7):
                    self.assertEqual(differ_at_least(glance, k), 0)

    def test_sets_of_which_all_odd_ones_are_told(self):
        rng = dice("odd told")
        for n in range(1, 7):
            for table in [draw_table(rng, n), odd_table(n, 1)]:
                for subset in rng.sample(range(2 ** n), 2):
                    sets = [each for each in range(2 ** n) if sign_at(each, subset) == -1]
                    alone = as_share(share_mattering(table, subset))
                    self.assertEqual(matters_within(glance_at(table, sets), subset), (alone, alone))
                    if sets:
                        low, high = matters_within(glance_at(table, sets[1:]), subset)
                        self.assertEqual(slow_matters(glance_at(table, sets[1:]), subset), (low, high))

    def test_differences_by_hand(self):
        odd = odd_table(3, 7)
        self.assertEqual([differ_at_least(glance_at(odd, [7]), k) for k in range(7)], [4, 4, 4, 0, 0, 0, 0])
        self.assertEqual([differ_at_least(glance_at(odd, []), k) for k in range(4)], [0, 0, 0, 0])
        # Within one switch the squares come to 8, so a lead of 2 of 4 is possible and one of 4 is not.
        self.assertEqual(differ_at_least(BOTH, 1), 1)
        self.assertEqual(differ_at_least(BOTH, 0), 1)
        self.assertEqual(differ_at_least((2, ((0, 2), (1, 2), (3, -2))), 1), 1)
        self.assertEqual(differ_at_least((2, ((3, -2),)), 1), 1)
        self.assertEqual(differ_at_least((2, ((3, -2),)), 2), 0)
        self.assertEqual(differ_at_least((3, ((7, 6),)), 2), 2)
        self.assertEqual(differ_at_least((3, ((0, 0), (1, 0), (2, 0), (3, 0))), 0), 4)

    def test_so_for_every_table_with_these_weights(self):
        rng = dice("every table")
        for n in (2, 3):
            for sets in drawn_sets(rng, n):
                by_glance = {}
                for table in all_tables(n):
                    by_glance.setdefault(glance_at(table, sets), []).append(table)
                subset, k = rng.randrange(1, 2 ** n), rng.randrange(n)
                share = rng.choice([(1, 4), (1, 10), (1, 2), (1, 3)])
                for glance, tables in by_glance.items():
                    matter, stay = matters_within(glance, subset), stays_within(glance, share)
                    differ = differ_at_least(glance, k)
                    for table in tables:
                        mattering, staying = share_mattering(table, subset), share_staying(table, share)
                        self.assertTrue(Fraction(*matter[0]) <= mattering <= Fraction(*matter[1]))
                        self.assertTrue(Fraction(*stay[0]) <= staying <= Fraction(*stay[1]))
                        self.assertLessEqual(differ, slow_nearest(table, k)[1])

    def test_glances_stay_as_they_were(self):
        rng = dice("kept glances")
        for _ in range(20):
            glance = draw_glance(rng, 4)
            ahead = frozen(glance)
            first = (matters_within(glance, 5), stays_within(glance, (1, 3)), differ_at_least(glance, 2))
            again = (matters_within(glance, 5), stays_within(glance, (1, 3)), differ_at_least(glance, 2))
            self.assertEqual(first, again)
            self.assertEqual(frozen(glance), ahead)


if __name__ == "__main__":
    unittest.main()
