import unittest
from fractions import Fraction

from flips.shaken import stays_at, ways
from flips.shaking import once_for, stays
from tests.helper import all_tables, as_share, dice, frozen, shaking_shares, shaking_tops, slow_sum, various_tables


def slow_ways(n, place, share):
    tops = enumerate(shaking_tops(n, share))
    return {place ^ turned: as_share(Fraction(top, share[1] ** n)) for turned, top in tops if top}


def shaken_again(n, found, share):
    """Way by way the places that are come to behind a second shaking."""
    totals = {}
    for place, first in found.items():
        for other, second in ways(n, place, share).items():
            totals[other] = totals.get(other, 0) + Fraction(*first) * Fraction(*second)
    return {place: as_share(total) for place, total in totals.items()}


def by_place(found):
    return frozen(dict(sorted(found.items())))


class Ways(unittest.TestCase):
    def look_at(self, n, place, share):
        found = ways(n, place, share)
        self.assertIs(type(found), dict)
        self.assertEqual(by_place(found), by_place(slow_ways(n, place, share)))
        self.assertEqual(sum(Fraction(*way) for way in found.values()), 1)
        self.assertTrue(all(way[0] > 0 for way in found.values()))

    def test_by_hand(self):
        self.assertEqual(ways(1, 0, (1, 3)), {0: (2, 3), 1: (1, 3)})
        self.assertEqual(ways(2, 1, (1, 4)), {1: (9, 16), 0: (3, 16), 3: (3, 16), 2: (1, 16)})
        self.assertEqual(ways(2, 2, (1, 2)), {0: (1, 4), 1: (1, 4), 2: (1, 4), 3: (1, 4)})

    def test_all_places(self):
        rng = dice("ways")
        for n in range(1, 7):
            shares = shaking_shares(rng)
            for place in range(2 ** n):
                for share in rng.sample(shares, 3) if n > 3 else shares:
                    self.look_at(n, place, share)

    def test_the_edges(self):
        for n in range(1, 7):
            for place in range(2 ** n):
                self.assertEqual(frozen(ways(n, place, (0, 1))), frozen({place: (1, 1)}))
                self.assertEqual(frozen(ways(n, place, (1, 1))), frozen({2 ** n - 1 - place: (1, 1)}))
                self.assertEqual(ways(n, place, (1, 2)), {other: (1, 2 ** n) for other in range(2 ** n)})

    def test_a_told_dict_is_the_askers_own(self):
        first = ways(2, 1, (1, 4))
        first[0] = (9, 1)
        first.clear()
        self.assertEqual(ways(2, 1, (1, 4)), {1: (9, 16), 0: (3, 16), 3: (3, 16), 2: (1, 16)})

    def test_shaken_twice_is_shaken_once(self):
        rng = dice("once for ways")
        for n in (1, 2, 3, 4):
            for _ in range(20 if n < 4 else 6):
                place = rng.randrange(2 ** n)
                one, other = rng.choice(shaking_shares(rng)), rng.choice(shaking_shares(rng))
                twice = shaken_again(n, ways(n, place, one), other)
                self.assertEqual(by_place(ways(n, place, once_for(one, other))), by_place(twice))
        for one in [(0, 1), (1, 2), (1, 1), (1, 3)]:
            for other in [(0, 1), (1, 2), (1, 1), (1, 3)]:
                twice = shaken_again(3, ways(3, 5, one), other)
                self.assertEqual(by_place(ways(3, 5, once_for(one, other))), by_place(twice))


class StaysAt(unittest.TestCase):
    def look_at(self, table, share):
        n = len(table).bit_length() - 1
        total = 0
        for place, answer in enumerate(table):
            kept = sum(Fraction(*way) for other, way in slow_ways(n, place, share).items() if table[other] is answer)
            self.assertEqual(frozen(stays_at(table, place, share)), frozen(as_share(kept)))
            total += kept
        self.assertEqual(stays(slow_sum(table), share), as_share(total / 2 ** n))

    def test_by_hand(self):
        both = (False, False, False, True)
        self.assertEqual(frozen(stays_at(both, 3, (1, 4))), frozen((9, 16)))
        self.assertEqual(frozen(stays_at(both, 0, (1, 4))), frozen((15, 16)))
        self.assertEqual(frozen(stays_at(both, 1, (1, 4))), frozen((13, 16)))
        self.assertEqual(frozen(stays_at(both, 3, (1, 1))), frozen((0, 1)))
        self.assertEqual(frozen(stays_at(both, 3, (0, 1))), frozen((1, 1)))

    def test_all_small_tables(self):
        rng = dice("small stays at")
        for n in (1, 2):
            for table in all_tables(n):
                for share in shaking_shares(rng):
                    self.look_at(table, share)

    def test_various_tables(self):
        rng = dice("stays at")
        for n in range(3, 7):
            for table in various_tables(rng, n, 1):
                self.look_at(table, rng.choice(shaking_shares(rng)))

    def test_of_one_answer_all_stays(self):
        rng = dice("stays everywhere")
        for n in range(1, 7):
            for share in shaking_shares(rng):
                place = rng.randrange(2 ** n)
                for answer in (True, False):
                    self.assertEqual(frozen(stays_at((answer,) * 2 ** n, place, share)), frozen((1, 1)))


if __name__ == "__main__":
    unittest.main()
