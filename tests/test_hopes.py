import itertools
import random
import unittest
from fractions import Fraction

from censers.errors import BadMany, NoWood, TooFew
from censers.hopes import best, hope
from censers.tray import Tray
from tests.helper import by_choices, fits_saying, fitting, made, names_of, rows_said, shares, some_made, told, ways_of

TWO = Tray([("aloe", 3), ("cedar", 1)])
THREE = Tray([("elm", 2), ("none", 0), ("pine", 4)])
EVEN = Tray([("a", 3), ("b", 3), ("c", 3)])
ONE = Tray([("oak", 9)])
SIX = Tray([("aloe", 3), ("cedar", 0), ("elm", 99), ("oak", 1), ("pine", 20), ("z", 7)])
BARE = Tray([("a", 0), ("b", 0)])


class Small(unittest.TestCase):
    def test_ordinary(self):
        sayings = made(2, [("alike", 0, 1)])
        self.assertEqual(hope(TWO, [], sayings), (1, 2))
        self.assertEqual(hope(TWO, ["aloe"], sayings), (3, 4))
        self.assertEqual(best(TWO, [], sayings), (0, 0))
        self.assertEqual(hope(TWO, [], made(3, [])), (1, 1))
        self.assertEqual(best(TWO, [], made(4, [])), (0, 0, 0, 1))

    def test_against_all_ways(self):
        source = random.Random(1)
        for tray in (TWO, THREE, EVEN, ONE):
            for censers in range(1, 6):
                for seed in range(25):
                    sayings = some_made(censers, seed % 8, seed)
                    least = max(0, censers - tray.total())
                    opened = tuple(source.choices(names_of(tray), k=source.randrange(least, censers + 1)))
                    self.check(tray, opened, sayings)

    def check(self, tray, opened, sayings):
        ways = fitting(sayings.censers(), rows_said(sayings))
        by_rows = shares(tray, opened, sayings.censers())
        handed, standing = list(opened), sayings.standing()
        self.assertEqual(hope(tray, handed, sayings), told(sum((by_rows.get(way, 0) for way in ways), Fraction(0))))
        self.assertEqual(best(tray, handed, sayings), max(ways, key=lambda way: by_rows.get(way, 0)))
        self.assertEqual((handed, sayings.standing()), (list(opened), standing))

    def test_every_opening(self):
        for said in ([], [("alike", 1, 3)], [("unlike", 0, 2), ("most", 2)], [("least", 3)],
                     [("alike", 0, 2), ("least", 2)]):
            for length in range(5):
                for opened in itertools.product(names_of(EVEN), repeat=length):
                    self.check(EVEN, opened, made(4, said))

    def test_no_sayings_are_sure_to_fit(self):
        for censers in range(1, 10):
            for length in range(censers + 1):
                for opened in (["z"] * length, ["elm", "cedar", "oak"] * 3):
                    self.assertEqual(hope(SIX, opened[:length], made(censers, [])), (1, 1))


class NoChance(unittest.TestCase):
    def test_an_opening_against_the_sayings(self):
        for said, opened, first in (
            ([("alike", 0, 1)], ["a", "b"], (0, 0, 0)),
            ([("unlike", 0, 1)], ["a", "a"], (0, 1, 0)),
            ([("unlike", 0, 1)], ["a", "a", "b"], (0, 1, 0)),
            ([("most", 1)], ["a", "b"], (0, 0, 0)),
            ([("least", 2)], ["a", "a", "a"], (0, 0, 1)),
            ([("least", 3)], ["a", "b", "a"], (0, 1, 2)),
        ):
            sayings = made(3, said)
            self.assertEqual(hope(EVEN, opened, sayings), (0, 1))
            self.assertEqual(best(EVEN, opened, sayings), first)

    def test_more_woods_than_there_are(self):
        sayings = made(9, [("least", 7), ("unlike", 0, 1)])
        self.assertEqual(hope(SIX, [], sayings), (0, 1))
        self.assertEqual(best(SIX, [], sayings), fitting(9, [("least", 7), ("unlike", 0, 1)])[0])
        self.assertEqual((hope(ONE, [], made(2, [("unlike", 0, 1)])), best(ONE, [], made(2, [("unlike", 0, 1)]))),
                         ((0, 1), (0, 1)))

    def test_a_wood_that_is_used_up(self):
        sayings = made(2, [("alike", 0, 1)])
        self.assertEqual(hope(THREE, ["none"], sayings), (0, 1))
        self.assertEqual(best(THREE, ["none"], sayings), (0, 0))

    def test_all_opened(self):
        sayings = made(3, [("alike", 0, 2)])
        self.assertEqual(hope(BARE, ["a", "b", "a"], sayings), (1, 1))
        self.assertEqual(best(BARE, ["a", "b", "a"], sayings), (0, 1, 0))
        self.assertEqual(hope(BARE, ["a", "b", "b"], sayings), (0, 1))
        self.assertEqual(best(BARE, ["a", "b", "b"], sayings), (0, 0, 0))


class Nine(unittest.TestCase):
    def test_against_all_ways(self):
        known = {}
        for seed, opened in ((4, []), (6, ["elm", "pine"]), (9, ["z", "z", "aloe"]),
                             (2, ["cedar", "oak", "elm", "elm", "z"])):
            sayings = some_made(9, seed, seed)
            ways = [way for way in fitting(9, rows_said(sayings)) if len(set(way)) <= 6]
            chances = []
            for way in ways:
                key = (tuple(opened), way[:len(opened)], tuple(way[len(opened):].count(k) for k in sorted(set(way))))
                if key not in known:
                    known[key] = by_choices(SIX, opened, way)
                chances.append(known[key])
            self.assertEqual(hope(SIX, opened, sayings), told(sum(chances, Fraction(0))))
            if max(chances):
                self.assertEqual(best(SIX, opened, sayings), ways[chances.index(max(chances))])

    def test_a_way_that_is_wholly_said(self):
        for way in ways_of(9)[5::3000]:
            said = [("alike" if way[k] == way[m] else "unlike", m, k) for k, m in itertools.combinations(range(9), 2)]
            sayings = made(9, said)
            self.assertTrue(all(fits_saying(way, saying) for saying in said))
            self.assertEqual(hope(SIX, ["z"], sayings), told(by_choices(SIX, ["z"], way)) if max(way) < 6 else (0, 1))
            self.assertEqual(best(SIX, ["z"], sayings), way)


class Refused(unittest.TestCase):
    def refused(self, error, tray, opened, sayings):
        for ask in (hope, best):
            handed = list(opened)
            with self.assertRaises(error):
                ask(tray, handed, sayings)
            self.assertEqual(handed, opened)

    def test_strange_names_go_first(self):
        for tray in (SIX, BARE):
            for name in ("", "ash", "oaks", "Z"):
                for opened in ([name], names_of(tray)[:1] * 2 + [name], [name] + names_of(tray)[:1] * 20):
                    for censers in (1, 3, 9):
                        self.refused(NoWood, tray, opened, made(censers, []))

    def test_then_more_opened_than_there_are(self):
        for tray in (SIX, BARE):
            for censers in (1, 3, 9):
                for more in (1, 2, 20):
                    self.refused(BadMany, tray, names_of(tray)[:1] * (censers + more), made(censers, [("most", 1)]))

    def test_then_too_few(self):
        for tray in (TWO, THREE, BARE):
            for censers in range(tray.total() + 1, 10):
                for length in range(censers - tray.total()):
                    self.refused(TooFew, tray, names_of(tray)[:1] * length, made(censers, []))
                    self.refused(TooFew, tray, names_of(tray)[:1] * length, made(censers, [("least", censers)]))
                self.assertEqual(hope(tray, names_of(tray)[:1] * (censers - tray.total()), made(censers, [])), (1, 1))


if __name__ == "__main__":
    unittest.main()
