import itertools
import random
import unittest

from censers.cases import settled, shows
from censers.errors import BadMany, BadSaying, NoCenser
from tests.helper import FAR, all_sayings, bad_sayings, fits_saying, fitting, is_paper, outside_sayings

FIVE_ROUND = [("unlike", 0, 1), ("unlike", 1, 2), ("unlike", 3, 2), ("unlike", 3, 4), ("unlike", 0, 4)]


def some_lists(censers, count):
    """Lists of sayings of so many censers, of unlike lengths and of all kinds, the same ones in each run."""
    source = random.Random(censers)
    return [source.choices(all_sayings(censers), k=source.randrange(2 * censers + 3)) for turn in range(count)]


def apart_lists(censers, count):
    """Lists of many unlike sayings with one most: here it takes cases to find that no way fits."""
    source = random.Random(censers)
    found = []
    for turn in range(count):
        share = source.random()
        unlike = [("unlike", *source.sample(two, 2)) for two in itertools.combinations(range(censers), 2)
                  if source.random() < share]
        found.append(unlike + [("most", source.randrange(2, max(3, censers - 2)))])
    return found


def inner(paper):
    """The paper and all papers within it."""
    if paper[0] != "cases":
        return [paper]
    return [paper] + inner(paper[3]) + inner(paper[4])


class Settled(unittest.TestCase):
    def check(self, censers, sayings):
        """Whether a way fits, as it is told; what is told with it is checked."""
        handed = list(sayings)
        told = settled(censers, handed)
        self.assertEqual(handed, sayings)
        self.assertIsInstance(told, tuple)
        word, found = told
        if word == "way":
            self.assertEqual(len(found), censers)
            self.assertIn(found, fitting(censers, []))
            self.assertTrue(all(fits_saying(found, saying) for saying in sayings), (sayings, found))
            return True
        self.assertEqual(word, "none")
        self.assertTrue(is_paper(censers, sayings, found), (sayings, found))
        self.assertIs(shows(censers, handed, found), True)
        self.assertEqual(handed, sayings)
        return False

    def test_ordinary(self):
        self.assertEqual(settled(2, [("alike", 0, 1)]), ("way", (0, 0)))
        self.assertEqual(settled(2, [("unlike", 0, 1)]), ("way", (0, 1)))
        self.assertEqual(settled(2, [("alike", 0, 1), ("unlike", 1, 0)])[0], "none")
        self.assertEqual(settled(3, [("least", 2), ("most", 1)]), ("none", ("counts",)))
        self.assertEqual(settled(2, [("alike", 0, 1), ("least", 2)]), ("none", ("few",)))
        self.assertEqual(settled(3, [("most", 2), ("least", 2), ("alike", 2, 1)]), ("way", (0, 1, 1)))

    def test_no_sayings(self):
        for censers in range(1, 10):
            self.assertTrue(self.check(censers, []))

    def test_one_censer(self):
        for length in range(4):
            for sayings in itertools.product(all_sayings(1), repeat=length):
                self.assertTrue(self.check(1, list(sayings)))

    def test_all_short_lists(self):
        for censers, longest in ((2, 4), (3, 3)):
            for length in range(longest + 1):
                for sayings in itertools.combinations(all_sayings(censers), length):
                    self.assertEqual(self.check(censers, list(sayings)), fitting(censers, sayings) != [])

    def test_lists_of_four_and_five_censers(self):
        for censers in (4, 5):
            for sayings in some_lists(censers, 400) + apart_lists(censers, 200):
                self.assertEqual(self.check(censers, sayings), fitting(censers, sayings) != [])

    def test_lists_of_six_to_nine_censers(self):
        told = [self.check(censers, sayings) for censers in range(6, 10)
                for sayings in some_lists(censers, 60) + apart_lists(censers, 100)]
        self.assertIn(True, told)
        self.assertIn(False, told)

    def test_cases_are_needed(self):
        word, paper = settled(5, FIVE_ROUND + [("most", 2)])
        self.assertEqual((word, paper[0]), ("none", "cases"))
        for censers in (5, 9):
            self.assertFalse(self.check(censers, FIVE_ROUND + [("most", 2)]))
            self.assertTrue(self.check(censers, FIVE_ROUND + [("most", 3)]))
        nine_round = [("unlike", k, (k + 1) % 9) for k in range(9)]
        self.assertFalse(self.check(9, nine_round + [("most", 2)]))
        self.assertTrue(self.check(9, nine_round + [("most", 3), ("least", 3)]))

    def test_two_that_can_only_be_unlike(self):
        twos = ((0, 1), (0, 2), (0, 4), (1, 3), (2, 4), (2, 5), (3, 4), (3, 5), (4, 5))
        for order in itertools.permutations(range(6)):
            sayings = [("unlike", order[one], order[other]) for one, other in twos] + [("most", 3)]
            word, way = settled(6, sayings)
            self.assertEqual(word, "way")
            self.assertTrue(all(fits_saying(way, saying) for saying in sayings))

    def test_bounds_of_nine_censers(self):
        apart = [("unlike", one, other) for one, other in itertools.combinations(range(9), 2)]
        for many in range(1, 10):
            self.assertTrue(self.check(9, [("least", many), ("most", many)]))
            self.assertEqual(self.check(9, apart + [("most", many)]), many == 9)
            self.assertEqual(self.check(9, [("alike", k, 8) for k in range(8)] + [("least", many)]), many == 1)

    def test_very_long_lists(self):
        sayings = [("alike", 0, 1), ("unlike", 2, 1), ("least", 2), ("most", 5)] * 5000
        self.assertEqual(settled(9, sayings)[0], "way")
        self.assertEqual(settled(9, sayings + [("alike", 2, 0)])[0], "none")


class Shows(unittest.TestCase):
    def same(self, censers, sayings, paper):
        told = shows(censers, sayings, paper)
        self.assertIsInstance(told, bool)
        self.assertEqual(told, is_paper(censers, sayings, paper), (censers, sayings, paper))
        return told

    def test_ring(self):
        sayings = [("alike", 0, 1), ("alike", 2, 1), ("unlike", 0, 2), ("unlike", 0, 3), ("alike", 3, 4)]
        for one, other in itertools.product((-2, -1, 0, 1, 2, 3, 4, 5) + FAR, repeat=2):
            self.assertEqual(shows(5, sayings, ("ring", one, other)), {one, other} == {0, 2})
        self.assertFalse(shows(5, sayings[:2], ("ring", 0, 2)))
        self.assertFalse(shows(5, sayings[1:], ("ring", 0, 2)))

    def test_a_ring_is_of_the_two_that_are_said_to_be_unlike(self):
        sayings = [("alike", 0, 1), ("alike", 1, 2), ("alike", 2, 3), ("unlike", 3, 0)]
        told = [(one, other) for one in range(4) for other in range(4) if shows(4, sayings, ("ring", one, other))]
        self.assertEqual(told, [(0, 3), (3, 0)])

    def test_counts(self):
        for least, most in itertools.product(range(1, 5), repeat=2):
            self.assertEqual(shows(4, [("least", least), ("most", most)], ("counts",)), least > most)
            self.assertEqual(shows(4, [("most", most), ("least", least)], ("counts",)), least > most)
        self.assertTrue(shows(4, [("least", 1), ("least", 3), ("most", 4), ("most", 2)], ("counts",)))
        self.assertTrue(shows(4, [("least", 3), ("least", 1), ("most", 2), ("most", 4)], ("counts",)))
        for sayings in ([], [("least", 4)], [("most", 1)]):
            self.assertFalse(shows(4, sayings, ("counts",)))

    def test_few(self):
        alike = [("alike", 0, 1), ("alike", 3, 2), ("alike", 1, 0)]
        for least in range(1, 5):
            self.assertEqual(shows(4, alike + [("least", least)], ("few",)), least > 2)
            self.assertEqual(shows(4, [("least", least), ("least", 1)] + alike, ("few",)), least > 2)
            self.assertFalse(shows(4, alike + [("most", least)], ("few",)))
        self.assertFalse(shows(4, [], ("few",)))

    def test_many(self):
        sayings = [("unlike", 0, 1), ("unlike", 3, 2), ("unlike", 2, 0), ("alike", 1, 3), ("most", 2), ("most", 4)]
        for length in range(5):
            for row in itertools.product((-1, 0, 1, 2, 3, 4, 5, 10 ** 31), repeat=length):
                good = sorted(row) in ([0, 1, 2], [0, 2, 3])
                self.assertEqual(shows(5, sayings, ("many", row)), good, row)
        for place in range(5):
            self.assertFalse(shows(5, sayings[:place] + sayings[place + 1:], ("many", (0, 1, 2))))
        self.assertTrue(shows(5, sayings[:5], ("many", (2, 1, 0))))

    def test_many_where_a_ring_is_too(self):
        sayings = [("alike", 0, 1), ("unlike", 1, 0), ("most", 1)]
        self.assertTrue(shows(2, sayings, ("many", (0, 1))))
        self.assertFalse(shows(2, sayings, ("many", (0, 0))))
        self.assertFalse(shows(2, sayings, ("many", (0, 1, 0))))
        self.assertFalse(shows(3, sayings, ("many", (0, 2))))

    def test_cases(self):
        sayings = FIVE_ROUND + [("most", 2)]
        good = ("cases", 0, 2, ("many", (0, 3, 4)), ("many", (0, 1, 2)))
        self.assertTrue(shows(5, sayings, good))
        self.assertTrue(shows(5, sayings, ("cases", 2, 0) + good[3:]))
        for first, second in ((good[4], good[3]), (good[3], good[3]), (good[4], good[4])):
            self.assertFalse(shows(5, sayings, good[:3] + (first, second)))
        for one, other in itertools.product((-3, -1, 0, 1, 2, 3, 4, 5) + FAR, repeat=2):
            paper = ("cases", one, other) + good[3:]
            self.assertEqual(self.same(5, sayings, paper), {one, other} == {0, 2}, paper)
        for place in range(6):
            self.assertFalse(shows(5, sayings[:place] + sayings[place + 1:], good))

    def test_cases_are_of_two_censers(self):
        sayings = [("least", 2), ("most", 1)]
        for one, other in itertools.product((-3, -1, 0, 1, 2, 3) + FAR, repeat=2):
            paper = ("cases", one, other, ("counts",), ("counts",))
            self.assertEqual(shows(3, sayings, paper), one != other and {one, other} <= {0, 1, 2})

    def test_forty_within_one_another(self):
        sayings = [("least", 3), ("most", 2)]
        for turned in (1, -1):
            paper, spoilt = ("counts",), ("few",)
            for depth in range(39):
                paper, spoilt = [("cases", 0, 1) + (one, ("counts",))[::turned] for one in (paper, spoilt)]
            self.assertTrue(shows(3, sayings, paper))
            self.assertFalse(shows(3, [("most", 2), ("least", 1)], paper))
            self.assertEqual(shows(3, sayings, spoilt), turned == 1)

    def test_every_flat_paper_for_short_lists(self):
        rows = [row for length in range(4) for row in itertools.permutations(range(3), length)]
        papers = [("counts",), ("few",)] + [("many", row) for row in rows]
        papers += [("ring", one, other) for one, other in itertools.product(range(3), repeat=2)]
        for length in range(4):
            for sayings in itertools.combinations(all_sayings(3)[::2] + [("least", 2), ("most", 1)], length):
                for paper in papers:
                    self.same(3, list(sayings), paper)

    def test_good_papers_spoilt(self):
        for censers in (5, 9):
            for sayings in some_lists(censers, 60) + apart_lists(censers, 60):
                word, paper = settled(censers, sayings)
                if word == "none":
                    self.assertTrue(self.same(censers, sayings, paper))
                    for spoilt in self.spoilt(paper):
                        self.same(censers, sayings, spoilt)

    def spoilt(self, paper):
        """Rows that are near the paper."""
        found = [("cases", 0, 1, paper, paper), ("cases", 1, 0, paper, ("few",)), ("few",), ("counts",)]
        if paper[0] == "ring":
            found += [("ring", paper[1], other) for other in range(-1, 10)] + [("ring", paper[2], paper[1])]
        if paper[0] == "many":
            row = paper[1]
            found += [("many", row[:-1]), ("many", row + row[:1]), ("many", row[:1] + row[:-1]), ("many", row[::-1])]
            found += [("many", row[:-1] + (censer,)) for censer in range(-1, 10)]
        if paper[0] == "cases":
            word, one, other, first, second = paper
            found += [(word, one, other, second, first), (word, other, one, first, second)]
            found += [(word, one, censer, first, second) for censer in range(-1, 10)]
            found += [(word, one, other, near, second) for near in self.spoilt(first)]
            found += [(word, one, other, first, near) for near in self.spoilt(second)]
        return found

    def test_parts_too_few_and_too_many_and_other_texts(self):
        kinds = set()
        for sayings in some_lists(5, 200) + apart_lists(5, 200):
            word, paper = settled(5, sayings)
            if word == "way":
                continue
            kinds.add(paper[0])
            texts = [(text,) + paper[1:] for text in ("", "rings", "Counts", "way", "none", "case", "alike", "few ")]
            counts = [(), paper + (0,), paper + (("counts",),), paper + paper, paper[:1] + paper]
            counts += [paper[:length] for length in range(1, len(paper))]
            for spoilt in texts + counts:
                self.assertIs(shows(5, sayings, spoilt), False, (sayings, spoilt))
                self.assertIs(shows(5, sayings, ("cases", 0, 1, spoilt, spoilt)), False)
        self.assertEqual(kinds, {"ring", "counts", "few", "many", "cases"})

    def test_each_word_with_another_count_of_things(self):
        sayings = [("alike", 0, 1), ("unlike", 0, 1), ("least", 3), ("most", 1), ("unlike", 1, 2)]
        for word in ("ring", "counts", "few", "many", "cases"):
            good = {"ring": 2, "counts": 0, "few": 0, "many": 1, "cases": 4}[word]
            for things in range(7):
                if things != good:
                    for thing in (0, (0, 1), ("counts",)):
                        self.assertIs(shows(3, sayings, (word,) + (thing,) * things), False)

    def test_no_paper_where_a_way_fits(self):
        for sayings in ([], [("most", 2)], [("alike", 0, 1), ("unlike", 1, 2), ("least", 2), ("most", 2)]):
            for paper in (("counts",), ("few",), ("ring", 1, 2), ("many", (0, 2)), ("many", (0, 1, 2)), ("many", ()),
                          ("cases", 0, 1, ("counts",), ("ring", 0, 1)), ("cases", 0, 2, ("ring", 0, 2), ("few",))):
                self.assertIs(shows(3, sayings, paper), False)

    def test_the_sayings_stay(self):
        sayings = FIVE_ROUND + [("most", 2)]
        shows(5, sayings, ("cases", 0, 2, ("many", (0, 3, 4)), ("many", (0, 1, 2))))
        self.assertEqual(sayings, FIVE_ROUND + [("most", 2)])


class Refused(unittest.TestCase):
    def refused(self, error, censers, sayings):
        with self.assertRaises(error):
            settled(censers, sayings)
        for paper in (("counts",), ("ring", 0, 1), ("no", "paper")):
            with self.assertRaises(error):
                shows(censers, sayings, paper)

    def test_bad_counts_go_first(self):
        for censers in (0, -1, 10, 11) + FAR:
            for sayings in ([], [("alike", 0, 1)], [("same",)], [("alike", 0, 0)], [("alike", 0, 30)]):
                self.refused(BadMany, censers, sayings)

    def test_bad_sayings(self):
        for censers in (1, 2, 3, 8, 9):
            for bad in bad_sayings(censers):
                self.refused(BadSaying, censers, [bad])
                self.refused(BadSaying, censers, [("most", 1), ("least", 1), bad])

    def test_censers_outside(self):
        for censers in (1, 2, 3, 8, 9):
            for bad in outside_sayings(censers):
                self.refused(NoCenser, censers, [bad])
                self.refused(NoCenser, censers, [("most", 1), ("least", 1), bad])

    def test_the_first_bad_one_goes(self):
        for bad in bad_sayings(3):
            for outside in outside_sayings(3):
                self.refused(BadSaying, 3, [bad, outside])
                self.refused(NoCenser, 3, [outside, bad])

    def test_bad_ones_are_refused_where_no_way_fits_either(self):
        for sayings in ([("least", 3), ("most", 1)], [("alike", 0, 1), ("unlike", 1, 0)]):
            self.refused(BadSaying, 3, sayings + [("least", 4)])
            self.refused(NoCenser, 3, [("unlike", 0, 3)] + sayings)


if __name__ == "__main__":
    unittest.main()
