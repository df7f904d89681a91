import copy
import unittest

from flips.deeds import both, fixed, odd, put, turned
from flips.sums import is_sum
from tests.helper import all_tables, dice, draw_table, fraction_at, frozen, is_on, slow_sum, tables_of, value


def place_with(place, switch, answer):
    """The place of one switch more, at which that switch is on or off and those above it are one higher."""
    switches = [is_on(place, number) for number in range(8)]
    switches.insert(switch, answer)
    return sum(2 ** number for number, on in enumerate(switches) if on)


class Deeds(unittest.TestCase):
    def look_at(self, total, table):
        self.assertIs(is_sum(total), True)
        self.assertEqual(frozen(total), frozen(slow_sum(tuple(table))))
        for place, answer in enumerate(table):
            self.assertEqual(fraction_at(total, place), value(answer))

    def look_at_pair(self, one, other):
        first, second = slow_sum(one), slow_sum(other)
        self.look_at(odd(first, second), [a is not b for a, b in zip(one, other)])
        self.look_at(both(first, second), [a and b for a, b in zip(one, other)])
        self.assertEqual((first, second), (slow_sum(one), slow_sum(other)))

    def test_by_hand(self):
        no, yes, on, off = (1, ((0, 2),)), (1, ((0, -2),)), (1, ((1, 2),)), (1, ((1, -2),))
        self.assertEqual(turned(no), yes)
        self.assertEqual(turned(on), off)
        self.assertEqual(odd(on, off), yes)
        self.assertEqual(odd(on, on), no)
        self.assertEqual(both(on, off), no)
        self.assertEqual(both(on, yes), on)
        self.assertEqual(fixed((2, ((0, 2), (1, 2), (2, 2), (3, -2))), 0, True), on)
        self.assertEqual(fixed((2, ((0, 2), (1, 2), (2, 2), (3, -2))), 0, False), no)
        self.assertEqual(put(off, [on]), off)
        self.assertEqual(put(off, [off]), on)

    def test_turned(self):
        rng = dice("turned")
        for n in range(1, 7):
            for table in tables_of(rng, n, 20):
                self.look_at(turned(slow_sum(table)), [not answer for answer in table])

    def test_odd_and_both_of_all_small_tables(self):
        for n in (1, 2):
            for one in all_tables(n):
                for other in all_tables(n):
                    self.look_at_pair(one, other)

    def test_odd_and_both_of_drawn_tables(self):
        rng = dice("pairs")
        for n in range(3, 7):
            tables = tables_of(rng, n, 4)
            for one in tables:
                for other in tables:
                    self.look_at_pair(one, other)

    def test_fixed(self):
        rng = dice("fixed")
        for n in range(2, 7):
            for table in tables_of(rng, n, 10):
                for switch in range(n):
                    for answer in (True, False):
                        expected = [table[place_with(place, switch, answer)] for place in range(2 ** (n - 1))]
                        self.look_at(fixed(slow_sum(table), switch, answer), expected)

    def test_fixed_of_all_tables_of_two_switches(self):
        for table in all_tables(2):
            total = slow_sum(table)
            self.look_at(fixed(total, 0, False), [table[0], table[2]])
            self.look_at(fixed(total, 0, True), [table[1], table[3]])
            self.look_at(fixed(total, 1, False), [table[0], table[1]])
            self.look_at(fixed(total, 1, True), [table[2], table[3]])


class Put(unittest.TestCase):
    def look_at(self, table, tables):
        total, sums = slow_sum(table), [slow_sum(each) for each in tables]
        ahead = frozen(copy.deepcopy(sums))
        made = put(total, sums)
        self.assertEqual(frozen(sums), ahead)
        self.assertEqual(total, slow_sum(table))
        expected = []
        for place in range(len(tables[0])):
            inner = sum(2 ** number for number, each in enumerate(tables) if each[place])
            expected.append(table[inner])
        self.assertIs(is_sum(made), True)
        self.assertEqual(frozen(made), frozen(slow_sum(tuple(expected))))
        for place, answer in enumerate(expected):
            self.assertEqual(fraction_at(made, place), value(answer))

    def test_all_small_ones(self):
        for table in all_tables(1):
            for n in (1, 2):
                for inner in all_tables(n):
                    self.look_at(table, [inner])
        for table in all_tables(2):
            for one in all_tables(1):
                for other in all_tables(1):
                    self.look_at(table, [one, other])

    def test_drawn_ones_of_each_m_and_n(self):
        rng = dice("put")
        for m in range(1, 7):
            for n in range(1, 7):
                for _ in range(3):
                    self.look_at(draw_table(rng, m), [draw_table(rng, n) for _ in range(m)])
                self.look_at((True,) * 2 ** m, [draw_table(rng, n) for _ in range(m)])
                self.look_at((False,) * 2 ** m, [draw_table(rng, n) for _ in range(m)])
                self.look_at(draw_table(rng, m), [draw_table(rng, n)] * m)

    def test_switches_put_for_switches(self):
        rng = dice("switches")
        for n in range(1, 7):
            table = draw_table(rng, n)
            switches = [slow_sum(tuple(is_on(place, switch) for place in range(2 ** n))) for switch in range(n)]
            self.assertEqual(put(slow_sum(table), switches), slow_sum(table))

    def test_what_is_done_to_the_list_later_changes_nothing(self):
        sums = [(1, ((1, 2),)), (1, ((0, 2),))]
        made = put((2, ((0, 2), (1, 2), (2, 2), (3, -2))), sums)
        ahead = frozen(made)
        sums[0] = (1, ((0, -2),))
        sums.clear()
        self.assertEqual(frozen(made), ahead)


if __name__ == "__main__":
    unittest.main()
