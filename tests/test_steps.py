import itertools
import unittest

from censers.errors import BadWay
from censers.steps import joinings, partings, path, steps
from tests.helper import BAD_TWOS, BAD_WAYS, members, some_ways, ways_of

SMALL = [way for censers in range(1, 6) for way in ways_of(censers)]
NINE = some_ways(9, 60)


def is_joining(way, other):
    """Whether the other way has just the lots of this one, but for two that are one there."""
    gone = [lot for lot in members(way) if lot not in members(other)]
    come = [lot for lot in members(other) if lot not in members(way)]
    return len(gone) == 2 and come == [gone[0] | gone[1]]


def neighbours(ways):
    """For each of the ways those that are a joining or a parting away."""
    return {way: [other for other in ways if is_joining(way, other) or is_joining(other, way)] for way in ways}


def distances(start, beside):
    """How many steps each way is away, by going through all of them."""
    found = {start: 0}
    rows = [start]
    for way in rows:
        for other in beside[way]:
            if other not in found:
                found[other] = found[way] + 1
                rows.append(other)
    return found


class Joinings(unittest.TestCase):
    def test_all_ways_of_few_censers(self):
        for censers in range(1, 7):
            ways = ways_of(censers)
            for way in ways:
                self.assertEqual(joinings(way), [other for other in ways if is_joining(way, other)], way)

    def test_ways_of_nine(self):
        for way in NINE:
            told = joinings(way)
            lots = max(way) + 1
            self.assertEqual(len(told), lots * (lots - 1) // 2)
            self.assertEqual(told, sorted(set(told)))
            self.assertTrue(all(is_joining(way, other) for other in told))

    def test_one_wood(self):
        for censers in range(1, 10):
            self.assertEqual(joinings((0,) * censers), [])

    def test_ordinary_way(self):
        self.assertEqual(joinings((0, 1, 2)), [(0, 0, 1), (0, 1, 0), (0, 1, 1)])
        self.assertEqual(joinings((0, 1, 0, 2)), [(0, 0, 0, 1), (0, 1, 0, 0), (0, 1, 0, 1)])

    def test_the_list_is_fresh(self):
        joinings((0, 1)).append((0, 1))
        self.assertEqual(joinings((0, 1)), [(0, 0)])

    def test_bad_ways(self):
        for way in BAD_WAYS:
            with self.assertRaises(BadWay):
                joinings(way)


class Partings(unittest.TestCase):
    def test_all_ways_of_few_censers(self):
        for censers in range(1, 7):
            ways = ways_of(censers)
            for way in ways:
                self.assertEqual(partings(way), [other for other in ways if is_joining(other, way)], way)

    def test_ways_of_nine(self):
        for way in NINE + [(0,) * 9]:
            told = partings(way)
            self.assertEqual(len(told), sum(2 ** (len(lot) - 1) - 1 for lot in members(way)))
            self.assertEqual(told, sorted(set(told)))
            self.assertTrue(all(is_joining(other, way) for other in told))

    def test_all_unlike(self):
        for censers in range(1, 10):
            self.assertEqual(partings(tuple(range(censers))), [])

    def test_ordinary_way(self):
        self.assertEqual(partings((0, 0, 0)), [(0, 0, 1), (0, 1, 0), (0, 1, 1)])
        self.assertEqual(partings((0, 1, 0, 1)), [(0, 1, 0, 2), (0, 1, 2, 1)])

    def test_the_list_is_fresh(self):
        partings((0, 0)).append((0, 0))
        self.assertEqual(partings((0, 0)), [(0, 1)])

    def test_bad_ways(self):
        for way in BAD_WAYS:
            with self.assertRaises(BadWay):
                partings(way)


class StepsAndPath(unittest.TestCase):
    def check_path(self, one, other):
        rows = path(one, other)
        self.assertEqual((rows[0], rows[-1]), (one, other))
        self.assertEqual(len(rows), steps(one, other) + 1)
        for way, beyond in zip(rows, rows[1:]):
            self.assertTrue(is_joining(way, beyond) or is_joining(beyond, way), rows)

    def test_the_fewest_by_going_through_all_ways(self):
        for censers in range(1, 7):
            ways = ways_of(censers)
            beside = neighbours(ways)
            for one in ways:
                found = distances(one, beside)
                self.assertEqual({other: steps(one, other) for other in ways}, found)

    def test_paths_of_few_censers(self):
        for censers in range(1, 6):
            for one, other in itertools.product(ways_of(censers), repeat=2):
                self.check_path(one, other)

    def test_paths_of_nine(self):
        for one, other in itertools.product(NINE[::2], NINE[1::2]):
            self.assertEqual(steps(one, other), steps(other, one))
            self.check_path(one, other)

    def test_ordinary_ways(self):
        self.assertEqual(steps((0, 0, 0), (0, 1, 2)), 2)
        self.assertEqual(steps((0, 0, 1, 1), (0, 1, 0, 1)), 2)
        self.assertEqual(path((0, 0, 1, 1), (0, 1, 0, 1)), [(0, 0, 1, 1), (0, 0, 0, 0), (0, 1, 0, 1)])
        self.assertEqual(steps((0, 0, 1, 2), (0, 1, 2, 2)), 2)
        self.assertEqual(steps((0,) * 9, tuple(range(9))), 8)

    def test_a_way_and_itself(self):
        for way in SMALL + NINE:
            self.assertEqual(steps(way, way), 0)
            self.assertEqual(path(way, way), [way])

    def test_the_list_is_fresh(self):
        path((0, 0), (0, 1)).clear()
        self.assertEqual(path((0, 0), (0, 1)), [(0, 0), (0, 1)])

    def test_bad_ways_and_unlike_counts(self):
        for one, other in BAD_TWOS:
            for asked in (steps, path):
                with self.assertRaises(BadWay):
                    asked(one, other)


if __name__ == "__main__":
    unittest.main()
