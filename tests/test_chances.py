import itertools
import unittest
from fractions import Fraction

from censers.chances import chance, chance_behind, chance_of, likeliest, row_chance
from censers.errors import BadMany, BadWay, NoWood, TooFew
from censers.tray import Tray
from tests.helper import BAD_WAYS, FAR, by_choices, filled, names_of, pattern, shares, some_ways, told, ways_of

ONE = Tray([("oak", 9)])
TWO = Tray([("aloe", 3), ("cedar", 1)])
THREE = Tray([("elm", 2), ("none", 0), ("pine", 4)])
EVEN = Tray([("a", 3), ("b", 3), ("c", 3)])
FULL = Tray([("aloe", 99), ("cedar", 99), ("elm", 99), ("oak", 99), ("pine", 99), ("z", 99)])
SIX = Tray([("aloe", 3), ("cedar", 0), ("elm", 99), ("oak", 1), ("pine", 20), ("z", 7)])
LONE = Tray([("a", 1), ("b", 1), ("c", 1), ("d", 1), ("e", 1), ("f", 1)])
BARE = Tray([("a", 0), ("b", 0)])
SMALL = (ONE, TWO, THREE, EVEN, LONE)
STRANGE = ("", "ash", "oaks", "oa", "OAK", "a" * 13)


class Rows(unittest.TestCase):
    def test_ordinary(self):
        self.assertEqual(row_chance(TWO, ["aloe"]), (3, 4))
        self.assertEqual(row_chance(TWO, ["cedar"]), (1, 4))
        self.assertEqual(row_chance(TWO, ["aloe", "cedar", "aloe"]), (1, 4))
        self.assertEqual(row_chance(ONE, ["oak"] * 9), (1, 1))

    def test_all_rows_of_small_trays(self):
        for tray in SMALL:
            for length in range(1, 5):
                for names in itertools.product(names_of(tray), repeat=length):
                    self.assertEqual(row_chance(tray, list(names)), told(filled(tray, names)))

    def test_rows_of_one_to_nine_names(self):
        for length in range(1, 10):
            for first in range(5):
                names = (["elm", "z", "pine", "elm", "aloe"][first:] + ["aloe", "oak", "elm", "z", "pine", "pine"] * 2)
                self.assertEqual(row_chance(SIX, names[:length]), told(filled(SIX, names[:length])))
                self.assertEqual(row_chance(FULL, names[:length]), told(filled(FULL, names[:length])))

    def test_more_of_a_wood_than_there_is(self):
        for names in (["cedar"] * 2, ["cedar"] * 3, ["cedar"] * 4, ["aloe"] * 4, ["cedar", "aloe", "cedar", "aloe"]):
            self.assertEqual(row_chance(TWO, names), (0, 1))
        self.assertEqual(row_chance(SIX, ["oak"] * 9), (0, 1))

    def test_a_wood_of_no_packets(self):
        for names in (["cedar"], ["elm", "cedar"], ["cedar"] * 9, ["pine"] * 8 + ["cedar"]):
            self.assertEqual(row_chance(SIX, names), (0, 1))

    def test_none_and_ten_names(self):
        for tray in (ONE, TWO, FULL, BARE):
            for length in (0, 10, 11, 100):
                with self.assertRaises(BadMany):
                    row_chance(tray, names_of(tray)[:1] * length)

    def test_a_strange_name_goes_first(self):
        for tray in (FULL, TWO, BARE):
            for length in (0, 1, 4, 8, 10):
                for name in STRANGE:
                    for place in range(length + 1):
                        names = names_of(tray)[:1] * length
                        with self.assertRaises(NoWood):
                            row_chance(tray, names[:place] + [name] + names[place:])

    def test_too_few(self):
        for tray in (TWO, THREE, LONE, BARE):
            for length in range(tray.total() + 1, 10):
                with self.assertRaises(TooFew):
                    row_chance(tray, names_of(tray)[:1] * length)
        self.assertEqual(row_chance(TWO, ["aloe", "aloe", "cedar", "aloe"]), (1, 4))

    def test_the_row_stays(self):
        names = ["elm", "aloe", "elm"]
        row_chance(SIX, names)
        self.assertEqual(names, ["elm", "aloe", "elm"])


class Ways(unittest.TestCase):
    def test_ordinary(self):
        self.assertEqual(chance(TWO, (0, 0)), (1, 2))
        self.assertEqual(chance(TWO, (0, 1)), (1, 2))
        self.assertEqual(chance(TWO, (0, 1, 0)), (1, 4))
        self.assertEqual(chance(ONE, (0,) * 9), (1, 1))
        self.assertEqual(chance(Tray([("a", 1)]), (0,)), (1, 1))

    def test_all_ways_of_small_counts(self):
        for tray in SMALL:
            for censers in range(1, min(5, tray.total()) + 1):
                for way in ways_of(censers):
                    self.assertEqual(chance(tray, way), told(shares(tray, (), censers).get(way, Fraction(0))))

    def test_nine_censers(self):
        for tray in (SIX, FULL, EVEN):
            for way in some_ways(9, 60):
                self.assertEqual(chance(tray, way), told(by_choices(tray, [], way)))

    def test_more_lots_than_woods(self):
        self.assertEqual(chance(TWO, (0, 1, 2)), (0, 1))
        self.assertEqual(chance(FULL, (0, 1, 2, 3, 4, 5, 6)), (0, 1))
        self.assertEqual(chance(FULL, tuple(range(9))), (0, 1))
        self.assertEqual(chance(THREE, (0, 1, 2)), (0, 1))

    def test_all_chances_together_are_sure(self):
        for tray in SMALL + (SIX, FULL):
            for censers in range(1, min(6, tray.total()) + 1):
                self.assertEqual(sum(Fraction(*chance(tray, way)) for way in ways_of(censers)), 1)

    def test_a_bad_way_goes_first(self):
        for tray in (FULL, TWO, BARE):
            for way in BAD_WAYS:
                with self.assertRaises(BadWay):
                    chance(tray, way)

    def test_too_few(self):
        for tray in (TWO, THREE, LONE, BARE):
            for censers in range(tray.total() + 1, 10):
                for way in ((0,) * censers, tuple(range(censers))):
                    with self.assertRaises(TooFew):
                        chance(tray, way)


class Counts(unittest.TestCase):
    def test_ordinary(self):
        self.assertEqual(chance_of(TWO, 2, 1), (1, 2))
        self.assertEqual(chance_of(TWO, 3, 2), (3, 4))
        self.assertEqual(chance_of(TWO, 4, 2), (1, 1))
        self.assertEqual(chance_of(TWO, 4, 1), (0, 1))

    def test_against_the_ways_of_so_many_woods(self):
        for tray in SMALL + (SIX, FULL):
            for censers in range(1, min(6, tray.total()) + 1):
                for count in range(-1, 9):
                    ways = [way for way in ways_of(censers) if len(set(way)) == count]
                    share = sum((Fraction(*chance(tray, way)) for way in ways), start=Fraction(0))
                    self.assertEqual(chance_of(tray, censers, count), told(share))

    def test_nine_censers(self):
        for tray in (SIX, FULL, EVEN):
            sizes = {}
            for way in ways_of(9):
                key = tuple(sorted(way.count(lot) for lot in set(way)))
                sizes.setdefault(key, [way, 0])[1] += 1
            for count in range(1, 10):
                share = sum((many * by_choices(tray, [], way) for way, many in sizes.values()
                             if len(set(way)) == count), start=Fraction(0))
                self.assertEqual(chance_of(tray, 9, count), told(share))

    def test_counts_that_never_come(self):
        for tray, censers in ((TWO, 4), (FULL, 9), (FULL, 1), (THREE, 5)):
            for count in (0, -1, -2, 7, 10) + FAR:
                self.assertEqual(chance_of(tray, censers, count), (0, 1))
        self.assertEqual(chance_of(FULL, 3, 4), (0, 1))
        self.assertEqual(chance_of(TWO, 4, 3), (0, 1))

    def test_bad_counts_of_censers_go_first(self):
        for tray in (FULL, TWO, BARE):
            for censers in (0, -1, 10, 11) + FAR:
                for count in (-1, 0, 1, 5):
                    with self.assertRaises(BadMany):
                        chance_of(tray, censers, count)

    def test_too_few(self):
        for tray in (TWO, THREE, LONE, BARE):
            for censers in range(tray.total() + 1, 10):
                for count in (-1, 0, 1, 2, 12):
                    with self.assertRaises(TooFew):
                        chance_of(tray, censers, count)


class Likeliest(unittest.TestCase):
    def test_ordinary(self):
        self.assertEqual(likeliest(ONE, 9), (0,) * 9)
        self.assertEqual(likeliest(LONE, 6), (0, 1, 2, 3, 4, 5))
        self.assertEqual(likeliest(TWO, 4), (0, 0, 0, 1))

    def test_the_first_of_the_even_ones(self):
        self.assertEqual(likeliest(TWO, 2), (0, 0))
        self.assertEqual(likeliest(Tray([("a", 2), ("b", 1)]), 3), (0, 0, 1))

    def test_against_all_ways(self):
        trays = SMALL + (SIX, FULL, BARE)
        trays += tuple(Tray([("a", a), ("b", b), ("c", c)]) for a, b, c in itertools.product(range(4), repeat=3))
        for tray in trays:
            for censers in range(1, min(5, tray.total()) + 1):
                by_all = max(ways_of(censers), key=lambda way: shares(tray, (), censers).get(way, 0))
                self.assertEqual(likeliest(tray, censers), by_all)

    def test_nine_censers(self):
        for tray in (SIX, FULL, EVEN, ONE, Tray([("a", 50), ("b", 3), ("c", 0)]), Tray([("a", 4), ("b", 5)])):
            known = {}
            for way in ways_of(9):
                known.setdefault(tuple(sorted(way.count(lot) for lot in set(way))), way)
            by_all = min(known.values(), key=lambda way: (-by_choices(tray, [], way), way))
            self.assertEqual(likeliest(tray, 9), by_all)

    def test_bad_counts_go_first(self):
        for tray in (FULL, TWO, BARE):
            for censers in (0, -1, 10, 11) + FAR:
                with self.assertRaises(BadMany):
                    likeliest(tray, censers)

    def test_too_few(self):
        for tray in (TWO, THREE, LONE, BARE):
            for censers in range(tray.total() + 1, 10):
                with self.assertRaises(TooFew):
                    likeliest(tray, censers)


class Behind(unittest.TestCase):
    def test_ordinary(self):
        self.assertEqual(chance_behind(TWO, ["aloe"], (0, 0)), (3, 4))
        self.assertEqual(chance_behind(TWO, ["aloe"], (0, 1)), (1, 4))
        self.assertEqual(chance_behind(TWO, ["cedar", "aloe"], (0, 1, 1)), (3, 4))

    def test_no_opening(self):
        for tray in SMALL:
            for censers in range(1, min(5, tray.total()) + 1):
                for way in ways_of(censers):
                    self.assertEqual(chance_behind(tray, [], way), chance(tray, way))

    def test_some_and_all_opened(self):
        for tray in (TWO, THREE, EVEN):
            for censers in range(1, 6):
                for length in range(max(0, censers - tray.total()), censers + 1):
                    for opened in itertools.product(names_of(tray), repeat=length):
                        by_rows = shares(tray, opened, censers)
                        for way in ways_of(censers):
                            share = told(by_rows.get(way, Fraction(0)))
                            self.assertEqual(chance_behind(tray, list(opened), way), share)

    def test_nine_censers(self):
        for opened in (["pine"], ["elm", "pine", "elm"], ["cedar", "elm", "oak", "cedar"], ["z"] * 8):
            behind = [way for way in ways_of(9) if way[:len(opened)] == pattern(opened)]
            for way in some_ways(9, 40) + behind[::len(behind) // 40 + 1]:
                self.assertEqual(chance_behind(SIX, opened, way), told(by_choices(SIX, opened, way)))

    def test_all_opened(self):
        self.assertEqual(chance_behind(BARE, ["a", "b", "a"], (0, 1, 0)), (1, 1))
        self.assertEqual(chance_behind(BARE, ["a", "b", "a"], (0, 0, 0)), (0, 1))
        self.assertEqual(chance_behind(FULL, ["z"] * 9, (0,) * 9), (1, 1))
        self.assertEqual(chance_behind(FULL, ["z"] * 9, (0,) * 8 + (1,)), (0, 1))

    def test_an_opening_against_the_way(self):
        self.assertEqual(chance_behind(FULL, ["z", "oak"], (0, 0, 0)), (0, 1))
        self.assertEqual(chance_behind(FULL, ["z", "z"], (0, 1, 0)), (0, 1))
        self.assertEqual(chance_behind(FULL, ["z", "oak", "elm", "oak"], (0, 1, 2, 0, 3)), (0, 1))

    def test_bad_ways_go_first(self):
        for way in BAD_WAYS:
            for tray in (FULL, BARE):
                for opened in ([], ["ash"], names_of(tray)[:1] * 10, ["ash"] * 50):
                    with self.assertRaises(BadWay):
                        chance_behind(tray, opened, way)

    def test_then_strange_names(self):
        for tray in (FULL, BARE):
            for name in STRANGE:
                for opened in ([name], names_of(tray)[:1] * 2 + [name], [name] + names_of(tray)[:1] * 20):
                    for way in ((0,), (0, 1), (0,) * 9):
                        with self.assertRaises(NoWood):
                            chance_behind(tray, opened, way)

    def test_then_more_opened_than_there_are(self):
        for tray in (FULL, TWO, BARE):
            for censers in (1, 2, 9):
                for more in (1, 2, 30):
                    with self.assertRaises(BadMany):
                        chance_behind(tray, names_of(tray)[:1] * (censers + more), (0,) * censers)

    def test_then_too_few(self):
        for tray in (TWO, THREE, LONE, BARE):
            for censers in range(tray.total() + 1, 10):
                for length in range(censers - tray.total()):
                    for way in ((0,) * censers, tuple(range(censers))):
                        with self.assertRaises(TooFew):
                            chance_behind(tray, names_of(tray)[:1] * length, way)
                just = names_of(tray)[:1] * (censers - tray.total())
                way = (0,) * censers
                self.assertEqual(chance_behind(tray, just, way), told(by_choices(tray, just, way)))

    def test_the_opening_stays(self):
        opened = ["z", "oak"]
        chance_behind(FULL, opened, (0, 1, 0))
        self.assertEqual(opened, ["z", "oak"])


class Trays(unittest.TestCase):
    def test_the_trays_stay(self):
        tray = Tray(SIX.all_woods())
        chance(tray, (0, 1, 0))
        row_chance(tray, ["elm", "z"])
        chance_of(tray, 3, 2)
        likeliest(tray, 4)
        chance_behind(tray, ["z"], (0, 1))
        self.assertEqual(tray.all_woods(), SIX.all_woods())


if __name__ == "__main__":
    unittest.main()
