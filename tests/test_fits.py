import itertools
import random
import unittest

from censers.errors import BadNumber, BadWay
from censers.fits import by_woods, fewest, fit, fit_number, fits, most
from tests.helper import BAD_WAYS, FAR, fits_saying, fitting, is_paper, made, rows_said, some_made, some_ways, ways_of

NINE = (
    [],
    [("alike", 0, 8)],
    [("least", 3), ("most", 4)],
    [("unlike", k, k + 1) for k in range(8)],
    [("unlike", k, (k + 1) % 9) for k in range(9)],
    [("alike", 1, 7), ("unlike", 7, 4), ("alike", 4, 0), ("unlike", 2, 3), ("most", 5), ("least", 2)],
    [("unlike", one, other) for one, other in itertools.combinations(range(5), 2)],
    [("unlike", one, other) for one, other in itertools.combinations(range(9), 2)],
    [("alike", k, 4) for k in range(9) if k != 4],
)


def some_listeners():
    """Sayings of one to five censers, with all ways that fit them."""
    found = []
    for censers in range(1, 6):
        for seed in range(40):
            sayings = some_made(censers, seed % 12, seed)
            found.append((sayings, fitting(censers, rows_said(sayings))))
    return found


class Counted(unittest.TestCase):
    def test_ordinary(self):
        sayings = made(3, [("unlike", 0, 1)])
        self.assertEqual(fits(sayings), 3)
        self.assertEqual(by_woods(sayings), [0, 2, 1])
        self.assertEqual([fit(sayings, number) for number in range(3)], [(0, 1, 0), (0, 1, 1), (0, 1, 2)])

    def test_against_all_ways(self):
        for sayings, ways in some_listeners():
            censers = sayings.censers()
            self.assertEqual(fits(sayings), len(ways))
            counts = [len([way for way in ways if len(set(way)) == many]) for many in range(1, censers + 1)]
            self.assertEqual(by_woods(sayings), counts)

    def test_no_saying(self):
        for censers in range(1, 10):
            self.assertEqual(fits(made(censers, [])), len(ways_of(censers)))

    def test_nine_censers(self):
        for said in NINE:
            ways = fitting(9, said)
            self.assertEqual(fits(made(9, said)), len(ways))
            counts = [len([way for way in ways if len(set(way)) == many]) for many in range(1, 10)]
            self.assertEqual(by_woods(made(9, said)), counts)

    def test_each_bound(self):
        for censers in (4, 9):
            free = by_woods(made(censers, []))
            for many in range(1, censers + 1):
                self.assertEqual(by_woods(made(censers, [("least", many)])), [0] * (many - 1) + free[many - 1:])
                self.assertEqual(by_woods(made(censers, [("most", many)])), free[:many] + [0] * (censers - many))

    def test_the_list_is_fresh(self):
        sayings = made(3, [("unlike", 0, 1)])
        by_woods(sayings).clear()
        self.assertEqual(by_woods(sayings), [0, 2, 1])

    def test_behind_withdrawals(self):
        sayings = made(3, [("unlike", 0, 1), ("most", 1 + 1), ("alike", 1, 2)])
        self.assertEqual((fits(sayings), fit(sayings, 0)), (1, (0, 1, 1)))
        sayings.withdraw(2)
        self.assertEqual((fits(sayings), by_woods(sayings)), (2, [0, 2, 0]))
        sayings.withdraw(0)
        self.assertEqual((fits(sayings), fit_number(sayings, (0, 1, 1))), (4, 3))
        sayings.withdraw(1)
        self.assertEqual((fits(sayings), most(sayings)[0], fewest(sayings)[0]), (5, 3, 1))


class Numbered(unittest.TestCase):
    def test_against_all_ways(self):
        for sayings, ways in some_listeners():
            self.assertEqual([fit(sayings, number) for number in range(len(ways))], ways)
            numbers = dict(zip(ways, range(len(ways))))
            for way in ways_of(sayings.censers()):
                self.assertEqual(fit_number(sayings, way), numbers.get(way))

    def test_nine_censers(self):
        for said in NINE:
            sayings, ways = made(9, said), fitting(9, said)
            numbers = sorted({0, len(ways) - 1, *range(0, len(ways), len(ways) // 40 + 1)})
            for number in numbers:
                way = fit(sayings, number)
                self.assertEqual(way, ways[number])
                self.assertIsInstance(way, tuple)
                self.assertEqual(fit_number(sayings, way), number)
            for way in some_ways(9, 60):
                self.assertEqual(fit_number(sayings, way), ways.index(way) if way in ways else None)

    def test_six_to_eight_censers(self):
        for censers in (6, 7, 8):
            for seed in range(6):
                sayings = some_made(censers, 4 + seed, seed)
                ways = fitting(censers, rows_said(sayings))
                self.assertEqual(fits(sayings), len(ways))
                for number in random.Random(seed).choices(range(len(ways)), k=20):
                    self.assertEqual(fit(sayings, number), ways[number])
                    self.assertEqual(fit_number(sayings, ways[number]), number)

    def test_numbers_that_no_way_has(self):
        for censers, said in ((1, []), (3, [("unlike", 0, 1)]), (9, []), (9, NINE[5]), (9, NINE[8])):
            sayings = made(censers, said)
            count = fits(sayings)
            self.assertEqual(fit_number(sayings, fit(sayings, count - 1)), count - 1)
            for number in (-1, -2, -count, count, count + 1) + FAR:
                with self.assertRaises(BadNumber):
                    fit(sayings, number)

    def test_ways_that_do_not_fit(self):
        sayings = made(3, [("unlike", 0, 1), ("most", 2)])
        for way in ((0, 0, 0), (0, 0, 1), (0, 1, 2)):
            self.assertIsNone(fit_number(sayings, way))

    def test_bad_ways(self):
        for censers in (1, 3, 9):
            for sayings in (made(censers, []), made(censers, [("most", 1)])):
                for way in BAD_WAYS:
                    with self.assertRaises(BadWay):
                        fit_number(sayings, way)

    def test_ways_of_another_count(self):
        for censers in range(1, 10):
            for other in range(1, 10):
                if other != censers:
                    for way in ((0,) * other, tuple(range(other))):
                        for said in ([], [("most", 1)], [("least", censers)]):
                            with self.assertRaises(BadWay):
                                fit_number(made(censers, said), way)


class Ends(unittest.TestCase):
    def check(self, sayings):
        """The fewest and the most woods, checked with the way and the paper told."""
        said, censers = rows_said(sayings), sayings.censers()
        low, way, paper = self.told(fewest(sayings), said)
        if low == 1:
            self.assertIsNone(paper)
        else:
            self.assertTrue(is_paper(censers, said + [("most", low - 1)], paper), (said, paper))
        high, way, paper = self.told(most(sayings), said)
        if high == censers:
            self.assertIsNone(paper)
        else:
            self.assertTrue(is_paper(censers, said + [("least", high + 1)], paper), (said, paper))
        return low, high

    def told(self, told, said):
        self.assertIsInstance(told, tuple)
        many, way, paper = told
        self.assertIn(way, ways_of(len(way)))
        self.assertEqual(len(set(way)), many)
        self.assertTrue(all(fits_saying(way, saying) for saying in said))
        return told

    def test_ordinary(self):
        sayings = made(3, [("unlike", 0, 1), ("alike", 1, 2)])
        self.assertEqual(self.check(sayings), (2, 2))
        self.assertEqual(fewest(sayings)[:2], (2, (0, 1, 1)))
        self.assertEqual(most(sayings)[:2], (2, (0, 1, 1)))

    def test_none_beside(self):
        for censers in range(1, 10):
            sayings = made(censers, [])
            self.assertEqual(fewest(sayings), (1, (0,) * censers, None))
            self.assertEqual(most(sayings), (censers, tuple(range(censers)), None))

    def test_against_all_ways(self):
        for sayings, ways in some_listeners():
            counts = [len(set(way)) for way in ways]
            self.assertEqual(self.check(sayings), (min(counts), max(counts)))

    def test_nine_censers(self):
        found = [self.check(made(9, said)) for said in NINE]
        self.assertEqual(found, [(1, 9), (1, 8), (3, 4), (2, 9), (3, 9), (2, 5), (5, 9), (9, 9), (1, 1)])

    def test_more_of_nine_censers(self):
        for seed in range(40):
            sayings = some_made(9, 10 + seed, seed)
            counts = [many for many, count in enumerate(by_woods(sayings), start=1) if count]
            self.assertEqual(self.check(sayings), (min(counts), max(counts)))


class Kept(unittest.TestCase):
    def test_questions_change_nothing(self):
        said = [("unlike", 0, 1), ("most", 3)]
        sayings = made(4, said)
        fits(sayings), by_woods(sayings), fewest(sayings), most(sayings)
        fit(sayings, 0), fit_number(sayings, (0, 1, 2, 0))
        self.assertEqual((sayings.standing(), sayings.said()), (list(enumerate(said)), 2))


if __name__ == "__main__":
    unittest.main()
