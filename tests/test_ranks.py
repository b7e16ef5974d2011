import unittest

from censers.errors import BadMany, BadNumber, BadWay
from censers.ranks import by_number, following, many, many_of, number
from tests.helper import BAD_WAYS, FAR, ways_of

ALL = {1: 1, 2: 2, 3: 5, 4: 15, 5: 52, 6: 203, 7: 877, 8: 4140, 9: 21147}
OUTSIDE = (0, -1, -9, 10, 11, 99) + FAR
NINE_BY_WOODS = [1, 255, 3025, 7770, 6951, 2646, 462, 36, 1]


class Many(unittest.TestCase):
    def test_one_to_nine(self):
        for censers in ALL:
            self.assertEqual(many(censers), ALL[censers])
            self.assertIs(type(many(censers)), int)

    def test_by_going_through_all(self):
        for censers in range(1, 7):
            self.assertEqual(many(censers), len(ways_of(censers)))

    def test_outside(self):
        for censers in OUTSIDE:
            with self.assertRaises(BadMany):
                many(censers)


class ManyOf(unittest.TestCase):
    def test_by_going_through_all(self):
        for censers in range(1, 7):
            for count in range(-2, censers + 4):
                found = [way for way in ways_of(censers) if max(way) + 1 == count]
                self.assertEqual(many_of(censers, count), len(found))

    def test_nine(self):
        self.assertEqual([many_of(9, count) for count in range(1, 10)], NINE_BY_WOODS)

    def test_they_sum_up_to_all(self):
        for censers in ALL:
            self.assertEqual(sum(many_of(censers, count) for count in range(1, 10)), ALL[censers])

    def test_counts_that_no_way_has(self):
        for censers in ALL:
            for count in (0, -1, -2, -censers, censers + 1, censers + 2, 100) + FAR:
                told = many_of(censers, count)
                self.assertEqual(told, 0)
                self.assertIs(type(told), int)

    def test_outside(self):
        for censers in OUTSIDE:
            for count in (1, 0, -1, 5) + FAR:
                with self.assertRaises(BadMany):
                    many_of(censers, count)


class Numbers(unittest.TestCase):
    def test_all_ways_of_few_censers_in_their_order(self):
        for censers in range(1, 7):
            for place, way in enumerate(ways_of(censers)):
                self.assertEqual(number(way), place)
                self.assertIs(type(number(way)), int)
                self.assertEqual(by_number(censers, place), way)
                self.assertIs(type(by_number(censers, place)), tuple)

    def test_nine_censers(self):
        written = {
            (0,) * 9: 0,
            (0, 0, 0, 0, 0, 0, 0, 0, 1): 1,
            (0, 0, 0, 0, 0, 0, 0, 1, 0): 2,
            (0, 0, 0, 0, 0, 0, 0, 1, 1): 3,
            (0, 0, 0, 0, 0, 0, 0, 1, 2): 4,
            (0, 0, 0, 0, 0, 0, 1, 0, 0): 5,
            (0, 1, 0, 0, 0, 0, 0, 0, 0): 4140,
            (0, 1, 2, 3, 4, 5, 6, 7, 7): 21145,
            tuple(range(9)): 21146,
        }
        for way, place in written.items():
            self.assertEqual(number(way), place)
            self.assertEqual(by_number(9, place), way)

    def test_nine_censers_from_the_first_to_the_last(self):
        way = (0,) * 9
        for place in range(ALL[9]):
            self.assertEqual(number(way), place)
            self.assertEqual(by_number(9, place), way)
            behind = following(way)
            if behind is not None:
                self.assertLess(way, behind)
            way = behind
        self.assertIsNone(way)

    def test_there_and_back(self):
        for censers in range(1, 9):
            for place in range(0, ALL[censers], 7):
                self.assertEqual(number(by_number(censers, place)), place)

    def test_numbers_that_no_way_has(self):
        for censers in ALL:
            self.assertEqual(by_number(censers, ALL[censers] - 1), tuple(range(censers)))
            for wrong in (-1, -2, -ALL[censers], ALL[censers], ALL[censers] + 1, 10 ** 9) + FAR:
                with self.assertRaises(BadNumber):
                    by_number(censers, wrong)

    def test_a_count_outside_goes_ahead_of_a_bad_number(self):
        for censers in OUTSIDE:
            for wanted in (0, 1, -1, 21147) + FAR:
                with self.assertRaises(BadMany):
                    by_number(censers, wanted)

    def test_bad_ways(self):
        for row in BAD_WAYS:
            with self.assertRaises(BadWay):
                number(row)


class Following(unittest.TestCase):
    def test_all_ways_of_few_censers(self):
        for censers in range(1, 7):
            ways = ways_of(censers)
            for way, behind in zip(ways, ways[1:] + [None]):
                self.assertEqual(following(way), behind)

    def test_written_out(self):
        self.assertEqual(following((0, 0, 1)), (0, 1, 0))
        self.assertEqual(following((0, 1, 2, 3, 4, 5, 6, 7, 7)), tuple(range(9)))
        self.assertEqual(following((0, 0, 1, 2, 3, 4, 5, 6, 7)), (0, 1, 0, 0, 0, 0, 0, 0, 0))

    def test_none_behind_the_last(self):
        for censers in ALL:
            self.assertIsNone(following(tuple(range(censers))))

    def test_told_is_a_row(self):
        self.assertIs(type(following((0, 0))), tuple)

    def test_bad_ways(self):
        for row in BAD_WAYS:
            with self.assertRaises(BadWay):
                following(row)


if __name__ == "__main__":
    unittest.main()
