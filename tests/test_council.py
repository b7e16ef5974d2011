import itertools
import random
import unittest

from censers.council import agreement, council
from censers.errors import BadWay
from tests.helper import BAD_TWOS, BAD_WAYS, OF_UNLIKE_COUNTS, some_ways, ways_of


def agreed(one, other):
    """The agreement of two ways, pair by pair."""
    twos = list(itertools.combinations(range(len(one)), 2))
    return sum((one[k] == one[m]) is (other[k] == other[m]) for k, m in twos)


def total(way, ways):
    return sum(agreed(way, other) for other in ways)


def named_anew(labels):
    """The way in which those are alike that have the same label."""
    fresh = list(dict.fromkeys(labels))
    return tuple(fresh.index(label) for label in labels)


def neighbours(way):
    """The ways that come of this one by a joining, a parting, or one censer put elsewhere."""
    found = set()
    for first, second in itertools.combinations(set(way), 2):
        found.add(named_anew([first if wood == second else wood for wood in way]))
    for lot in set(way):
        members = [k for k, wood in enumerate(way) if wood == lot]
        for length in range(1, len(members)):
            for chosen in itertools.combinations(members, length):
                found.add(named_anew([-1 if k in chosen else wood for k, wood in enumerate(way)]))
    for k, wood in itertools.product(range(len(way)), range(-1, len(way))):
        found.add(named_anew(list(way[:k]) + [wood] + list(way[k + 1:])))
    return sorted(found - {way})


class Agreement(unittest.TestCase):
    def test_ordinary(self):
        self.assertEqual(agreement((0, 0, 1), (0, 0, 1)), 3)
        self.assertEqual(agreement((0, 0, 1), (0, 1, 1)), 1)
        self.assertEqual(agreement((0, 0, 0), (0, 1, 2)), 0)
        self.assertEqual(agreement((0,), (0,)), 0)
        self.assertEqual(agreement((0,) * 9, (0,) * 9), 36)

    def test_all_pairs(self):
        for censers in range(1, 6):
            for one, other in itertools.product(ways_of(censers), repeat=2):
                self.assertEqual(agreement(one, other), agreed(one, other))

    def test_nine_censers(self):
        for one, other in itertools.product(some_ways(9, 40), repeat=2):
            self.assertEqual(agreement(one, other), agreed(one, other))

    def test_bad_ways(self):
        for one, other in BAD_TWOS:
            with self.assertRaises(BadWay):
                agreement(one, other)


class Council(unittest.TestCase):
    def check(self, ways):
        handed = list(ways)
        told = council(handed)
        self.assertEqual(handed, ways)
        self.assertEqual(told, max(ways_of(len(ways[0])), key=lambda way: total(way, ways)))

    def test_ordinary(self):
        self.assertEqual(council([(0, 0, 1), (0, 0, 1), (0, 1, 1)]), (0, 0, 1))
        self.assertEqual(council([(0, 0, 1), (0, 1, 0), (0, 1, 1)]), (0, 1, 2))
        self.assertEqual(council([(0,)]), (0,))

    def test_one_way_alone(self):
        for censers in range(1, 7):
            for way in ways_of(censers):
                self.assertEqual(council([way]), way)
        for way in some_ways(9, 60):
            self.assertEqual(council([way]), way)
            self.assertEqual(council([way] * 3), way)

    def test_even_sums(self):
        self.assertEqual(council([(0, 1), (0, 0)]), (0, 0))
        self.assertEqual(council([(0, 1, 2), (0, 0, 0)]), (0, 0, 0))
        self.assertEqual(council([(0, 1, 1), (0, 0, 1)]), (0, 0, 1))
        self.assertEqual(council([tuple(range(9)), (0,) * 9]), (0,) * 9)

    def test_all_lists_of_small_counts(self):
        for censers, longest in ((1, 3), (2, 5), (3, 4), (4, 2)):
            for length in range(1, longest + 1):
                for ways in itertools.product(ways_of(censers), repeat=length):
                    self.check(list(ways))

    def test_lists_of_up_to_five_censers(self):
        source = random.Random(20)
        for censers in (4, 5):
            for turn in range(150):
                self.check(source.choices(ways_of(censers), k=source.randrange(1, 8)))

    def test_lists_of_nine_censers(self):
        source = random.Random(9)
        for turn in range(40):
            ways = source.choices(ways_of(9), k=source.randrange(1, 12))
            told = council(ways)
            sum_told = total(told, ways)
            for near in neighbours(told) + ways:
                self.assertLessEqual(total(near, ways), sum_told)
                if near < told:
                    self.assertLess(total(near, ways), sum_told)

    def test_nine_censers_against_all_ways(self):
        source = random.Random(10)
        for turn in range(3):
            self.check(source.choices(ways_of(9), k=4))

    def test_none_and_bad_ones(self):
        with self.assertRaises(BadWay):
            council([])
        for bad in BAD_WAYS:
            for ways in ([bad], [bad, (0, 0)], [(0, 1), bad], [(0, 1), (0, 0), bad], [(0,), bad, (0,)], [bad, bad]):
                with self.assertRaises(BadWay):
                    council(ways)

    def test_unlike_counts_at_any_place(self):
        for one, other in OF_UNLIKE_COUNTS:
            for ways in ([one, other], [one, one, other], [one, other, one], [other, one, one]):
                with self.assertRaises(BadWay):
                    council(ways)


if __name__ == "__main__":
    unittest.main()
