import itertools
import unittest

from censers.errors import BadWay
from censers.shifts import kept, moved, overlap
from tests.helper import BAD_TWOS, members, some_ways, ways_of

SMALL = [two for censers in range(1, 6) for two in itertools.product(ways_of(censers), repeat=2)]
LARGE = [two for censers in range(6, 10) for two in itertools.product(some_ways(censers, 35), repeat=2)]


def in_both(one, other):
    return [[len(first & second) for second in members(other)] for first in members(one)]


def greatest_sum(table):
    """The greatest sum of overlaps of paired lots, by going through all pairings."""
    if len(table) > len(table[0]):
        table = list(zip(*table))
    columns = itertools.permutations(range(len(table[0])), len(table))
    return max(sum(row[column] for row, column in zip(table, chosen)) for chosen in columns)


class Overlap(unittest.TestCase):
    def test_all_and_some_ways(self):
        for one, other in SMALL + LARGE:
            self.assertEqual(overlap(one, other), in_both(one, other))

    def test_ordinary_ways(self):
        self.assertEqual(overlap((0, 0, 1, 1, 2), (0, 1, 1, 1, 0)), [[1, 1], [0, 2], [1, 0]])
        self.assertEqual(overlap((0, 1, 2), (0, 0, 0)), [[1], [1], [1]])
        self.assertEqual(overlap((0, 0, 0), (0, 1, 2)), [[1, 1, 1]])
        self.assertEqual(overlap((0,), (0,)), [[1]])

    def test_the_lists_are_fresh(self):
        told = overlap((0, 1, 2), (0, 0, 0))
        told[0].append(5)
        self.assertEqual(told, [[1, 5], [1], [1]])
        told.clear()
        self.assertEqual(overlap((0, 1, 2), (0, 0, 0)), [[1], [1], [1]])


class Kept(unittest.TestCase):
    def check(self, one, other):
        told = kept(one, other)
        self.assertIsInstance(told, tuple)
        total, found, prices, other_prices = told
        table = in_both(one, other)
        for place in (0, 1):
            paired = [pair[place] for pair in found]
            self.assertEqual(len(paired), len(set(paired)))
        self.assertTrue(all(isinstance(pair, tuple) and len(pair) == 2 for pair in found))
        self.assertTrue(all(0 <= k <= max(one) and 0 <= m <= max(other) for k, m in found))
        self.assertEqual(sum(table[k][m] for k, m in found), total)
        self.assertEqual((len(prices), len(other_prices)), (max(one) + 1, max(other) + 1))
        self.assertGreaterEqual(min(prices + other_prices), 0)
        self.assertEqual(sum(prices + other_prices), total)
        for k, m in itertools.product(range(len(prices)), range(len(other_prices))):
            self.assertLessEqual(table[k][m], prices[k] + other_prices[m])

    def test_ways_of_few_censers(self):
        for one, other in SMALL:
            self.check(one, other)
            self.assertEqual(kept(one, other)[0], greatest_sum(in_both(one, other)))

    def test_ways_of_more_censers(self):
        for one, other in LARGE:
            self.check(one, other)

    def test_many_lots_against_few(self):
        for censers in range(1, 10):
            for way in some_ways(censers, 40):
                for other in ((0,) * censers, tuple(range(censers))):
                    self.check(way, other)
                    self.check(other, way)
                greatest = max(len(lot) for lot in members(way))
                self.assertEqual(kept(way, (0,) * censers)[0], greatest)
                self.assertEqual(kept(way, tuple(range(censers)))[0], max(way) + 1)

    def test_the_first_best_pair_is_given_up(self):
        one, other = (0, 0, 0, 0, 0, 1, 1, 1, 1), (0, 0, 0, 1, 1, 0, 0, 0, 0)
        self.assertEqual(overlap(one, other), [[3, 2], [4, 0]])
        self.assertEqual(kept(one, other)[:2], (6, [(0, 1), (1, 0)]))
        self.check(one, other)

    def test_a_way_with_itself(self):
        for way in [one for one, other in LARGE[::35]] + [(0,), (0, 0), (0, 1), (0,) * 9, tuple(range(9))]:
            total, found, prices, other_prices = kept(way, way)
            self.assertEqual(total, len(way))
            self.assertEqual(sorted(found), [(lot, lot) for lot in range(max(way) + 1)])
            self.check(way, way)

    def test_the_lists_are_fresh(self):
        one, other = (0, 0, 1, 1, 2), (0, 1, 1, 1, 0)
        before = kept(one, other)
        for told in kept(one, other)[1:]:
            told.append(77)
        self.assertEqual(kept(one, other), before)
        self.check(one, other)


class Moved(unittest.TestCase):
    def test_what_is_left(self):
        for one, other in SMALL:
            self.assertEqual(moved(one, other), len(one) - greatest_sum(in_both(one, other)))
        for one, other in LARGE:
            self.assertEqual(moved(one, other), len(one) - kept(one, other)[0])

    def test_ordinary_ways(self):
        self.assertEqual(moved((0, 0, 1, 1, 2), (0, 1, 1, 1, 0)), 2)
        self.assertEqual(moved((0,) * 9, tuple(range(9))), 8)
        self.assertEqual(moved((0, 0, 1, 1), (0, 1, 0, 1)), 2)
        self.assertEqual(moved((0, 1, 0, 1), (0, 1, 0, 1)), 0)


class Refusals(unittest.TestCase):
    def test_bad_ways_and_unlike_counts(self):
        for one, other in BAD_TWOS:
            for asked in (overlap, kept, moved):
                with self.assertRaises(BadWay):
                    asked(one, other)


if __name__ == "__main__":
    unittest.main()
