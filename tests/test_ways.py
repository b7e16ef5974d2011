import itertools
import random
import unittest

from censers.errors import BadMany, BadOrder, BadWay, NoCenser
from censers.ways import (
    alike, check_many, is_way, joined, lies_within, lots, met, turned, way_by, way_of, woods,
)
from tests.helper import BAD_WAYS, FAR, closed, fits_words, links, pairs, ways_of

SMALL = [way for censers in range(1, 6) for way in ways_of(censers)]
NINE = [
    (0,) * 9,
    tuple(range(9)),
    (0, 1, 0, 2, 1, 3, 0, 4, 2),
    (0, 0, 0, 1, 1, 1, 2, 2, 2),
    (0, 1, 2, 3, 4, 5, 6, 7, 7),
    (0, 1, 2, 3, 4, 5, 6, 7, 0),
    (0, 0, 0, 0, 0, 0, 0, 0, 1),
    (0, 1, 2, 3, 4, 5, 6, 0, 1),
    (0, 0, 0, 0, 0, 0, 0, 1, 1),
]


class IsWay(unittest.TestCase):
    def test_all_rows_of_few_numbers(self):
        for length in range(1, 5):
            for row in itertools.product(range(-1, length + 2), repeat=length):
                self.assertIs(is_way(row), fits_words(row), row)

    def test_ordinary_ways(self):
        for way in SMALL + NINE:
            self.assertIs(is_way(way), True, way)

    def test_no_numbers(self):
        self.assertIs(is_way(()), False)

    def test_one_number(self):
        self.assertIs(is_way((0,)), True)
        self.assertIs(is_way((1,)), False)
        self.assertIs(is_way((-1,)), False)

    def test_nine_ten_and_more_numbers(self):
        self.assertIs(is_way((0,) * 9), True)
        self.assertIs(is_way(tuple(range(9))), True)
        for length in (10, 11, 40, 1000):
            self.assertIs(is_way((0,) * length), False)
            self.assertIs(is_way(tuple(range(length))), False)

    def test_first_number_not_nought(self):
        for first in (1, 2, -1, 8) + FAR:
            self.assertIs(is_way((first, 0, 1)), False)

    def test_one_more_than_the_greatest_ahead_and_two_more(self):
        self.assertIs(is_way((0, 1, 2, 0, 1, 3)), True)
        self.assertIs(is_way((0, 1, 2, 0, 1, 4)), False)
        self.assertIs(is_way((0, 1, 2, 2, 3, 4, 5, 6, 7)), True)
        self.assertIs(is_way((0, 1, 2, 2, 3, 4, 5, 6, 8)), False)

    def test_numbers_below_nought_and_far_away(self):
        for wrong in (-1, -2) + FAR:
            for place in range(9):
                row = [0] * 9
                row[place] = wrong
                self.assertIs(is_way(tuple(row)), False)

    def test_the_list_of_bad_ways(self):
        for row in BAD_WAYS:
            self.assertIs(is_way(row), False)


class BadWays(unittest.TestCase):
    def test_refused_wherever_one_way_is_handed_in(self):
        for row in BAD_WAYS:
            for ask in (woods, lots):
                with self.assertRaises(BadWay):
                    ask(row)

    def test_refused_ahead_of_a_censer(self):
        for row in BAD_WAYS:
            for one, other in ((0, 0), (0, 99), (-1, 0), (10 ** 31, -10 ** 31)):
                with self.assertRaises(BadWay):
                    alike(row, one, other)

    def test_refused_ahead_of_an_order(self):
        for row in BAD_WAYS:
            for order in (list(range(len(row))), [], [0, 0], [5], [10 ** 31]):
                with self.assertRaises(BadWay):
                    turned(row, order)

    def test_refused_in_either_place_and_in_both(self):
        for ask in (joined, met, lies_within):
            for row in BAD_WAYS:
                for good in ((0,), (0, 0), (0, 1, 0), (0,) * 9):
                    with self.assertRaises(BadWay):
                        ask(row, good)
                    with self.assertRaises(BadWay):
                        ask(good, row)
                for other in BAD_WAYS:
                    with self.assertRaises(BadWay):
                        ask(row, other)

    def test_unlike_counts(self):
        for ask in (joined, met, lies_within):
            for one, other in itertools.product(SMALL + NINE, repeat=2):
                if len(one) != len(other) and len(one) + len(other) < 7:
                    with self.assertRaises(BadWay):
                        ask(one, other)
            with self.assertRaises(BadWay):
                ask((0,) * 9, (0,) * 8)
            with self.assertRaises(BadWay):
                ask((0,), (0,) * 9)


class CheckMany(unittest.TestCase):
    def test_one_to_nine(self):
        for censers in range(1, 10):
            self.assertIsNone(check_many(censers))

    def test_outside(self):
        for censers in (0, -1, 10, 11, -9) + FAR:
            with self.assertRaises(BadMany):
                check_many(censers)


class WoodsAndAlike(unittest.TestCase):
    def test_woods_are_the_count_of_lots(self):
        for way in SMALL + NINE:
            self.assertEqual(woods(way), len(set(way)))
            self.assertEqual(woods(way), len(lots(way)))
            self.assertIs(type(woods(way)), int)

    def test_all_pairs(self):
        for way in SMALL + NINE:
            for one, other in pairs(len(way)):
                self.assertIs(alike(way, one, other), way[one] == way[other])

    def test_one_censer_twice(self):
        for way in SMALL + NINE:
            for censer in range(len(way)):
                self.assertIs(alike(way, censer, censer), True)

    def test_censers_outside(self):
        for way in ((0,), (0, 1, 0), (0, 0, 1, 2, 1), (0,) * 9):
            outside = (-1, -len(way), len(way), len(way) + 1, 9, 10) + FAR
            for wrong in outside:
                for right in range(len(way)):
                    with self.assertRaises(NoCenser):
                        alike(way, wrong, right)
                    with self.assertRaises(NoCenser):
                        alike(way, right, wrong)
                for also in outside:
                    with self.assertRaises(NoCenser):
                        alike(way, wrong, also)


class Lots(unittest.TestCase):
    def test_ordinary(self):
        self.assertEqual(lots((0, 1, 0, 2, 1)), [[0, 2], [1, 4], [3]])
        self.assertEqual(lots((0,)), [[0]])
        self.assertEqual(lots((0,) * 9), [[0, 1, 2, 3, 4, 5, 6, 7, 8]])
        self.assertEqual(lots(tuple(range(9))), [[0], [1], [2], [3], [4], [5], [6], [7], [8]])

    def test_lot_k_has_the_censers_whose_number_is_k(self):
        for way in SMALL + NINE:
            expected = [[c for c in range(len(way)) if way[c] == k] for k in range(max(way) + 1)]
            self.assertEqual(lots(way), expected)

    def test_fresh_lists(self):
        way = (0, 1, 0)
        first = lots(way)
        first[0].append(7)
        first.append([8])
        self.assertEqual(lots(way), [[0, 2], [1]])
        again = lots(way)
        self.assertIsNot(again[0], again[1])


class WayBy(unittest.TestCase):
    def test_lots_and_back(self):
        for way in SMALL + NINE:
            self.assertEqual(way_by(lots(way)), way)

    def test_lists_in_any_order_each_in_any_order(self):
        chosen = random.Random(5)
        for way in SMALL + NINE:
            for turn in range(4):
                lists = lots(way)
                chosen.shuffle(lists)
                for lot in lists:
                    chosen.shuffle(lot)
                self.assertEqual(way_by(lists), way)

    def test_written_out(self):
        self.assertEqual(way_by([[3, 1], [0], [4, 2]]), (0, 1, 2, 1, 2))
        self.assertEqual(way_by([[0]]), (0,))
        self.assertEqual(way_by([[8, 7, 6, 5, 4, 3, 2, 1, 0]]), (0,) * 9)

    def test_told_is_a_row(self):
        self.assertIs(type(way_by([[1], [0]])), tuple)

    def test_refused(self):
        wrong = [
            [], [[]], [[], []],
            [[0, 0]], [[0], [0]], [[0, 1], [1]], [[0, 1, 1], [2]],
            [[1]], [[0, 2]], [[0], [2, 3]], [[0, 1, 2, 3, 4, 5, 6, 7, 9]],
            [[-1]], [[0, -1]], [[-1, 0], [1]], [[0], [10 ** 31]], [[0, -10 ** 31]], [[10 ** 5000]],
            [[], [0, 1]], [[0], [], [1]], [[0, 1], []], [[0, 1, 2, 3, 4, 5, 6, 7, 8], []],
            [list(range(10))], [[k] for k in range(10)], [[k] for k in range(40)], [list(range(1000))],
            [[0, 1, 2, 3, 4], [5, 6, 7, 8, 8]], [[0] * 10],
        ]
        for lists in wrong:
            with self.assertRaises(BadWay):
                way_by(lists)

    def test_handed_in_lists_stay(self):
        for lists in ([[3, 1], [0], [4, 2]], [[1, 0], [0]], [[2, 1], []]):
            before = [list(lot) for lot in lists]
            try:
                way_by(lists)
            except BadWay:
                pass
            self.assertEqual(lists, before)


class WayOf(unittest.TestCase):
    def test_written_out(self):
        self.assertEqual(way_of([7]), (0,))
        self.assertEqual(way_of([5, -3, 5, 0, -3]), (0, 1, 0, 2, 1))
        self.assertEqual(way_of([9, 8, 7, 6, 5, 4, 3, 2, 1]), tuple(range(9)))
        self.assertEqual(way_of([0] * 9), (0,) * 9)

    def test_numbers_of_any_size(self):
        far = 10 ** 40
        self.assertEqual(way_of([far, -far, far + 1, far, -far]), (0, 1, 2, 0, 1))
        self.assertEqual(way_of([10 ** 5000, 10 ** 5000 + 1, 10 ** 5000]), (0, 1, 0))
        self.assertEqual(way_of([-1, -2, -1, 0, 1, 0]), (0, 1, 0, 2, 3, 2))

    def test_alike_where_the_numbers_are_the_same(self):
        chosen = random.Random(3)
        for length in range(1, 10):
            for turn in range(40):
                numbers = [chosen.choice((0, 1, -1, 2, 10 ** 33, -10 ** 33, 10 ** 33 + 1)) for k in range(length)]
                way = way_of(numbers)
                self.assertTrue(fits_words(way))
                self.assertEqual(len(way), length)
                for k, m in pairs(length):
                    self.assertEqual(way[k] == way[m], numbers[k] == numbers[m])

    def test_a_way_stays_itself(self):
        for way in SMALL + NINE:
            self.assertEqual(way_of(list(way)), way)

    def test_told_is_a_row(self):
        self.assertIs(type(way_of([3, 3])), tuple)

    def test_none_and_ten_numbers(self):
        for numbers in ([], [0] * 10, list(range(10)), [10 ** 31] * 11, list(range(1000))):
            with self.assertRaises(BadWay):
                way_of(numbers)

    def test_handed_in_list_stays(self):
        numbers = [4, 4, -1]
        way = way_of(numbers)
        self.assertEqual(numbers, [4, 4, -1])
        numbers[0] = 9
        self.assertEqual(way, (0, 0, 1))


class JoinedAndMet(unittest.TestCase):
    def test_written_out(self):
        self.assertEqual(joined((0, 1, 1, 2, 3), (0, 0, 1, 2, 2)), (0, 0, 0, 1, 1))
        self.assertEqual(met((0, 0, 0, 1, 1), (0, 1, 1, 1, 1)), (0, 1, 1, 2, 2))
        self.assertEqual(joined((0,), (0,)), (0,))
        self.assertEqual(met((0,), (0,)), (0,))

    def test_a_long_row_of_censers_leads_on(self):
        one = (0, 0, 1, 1, 2, 2, 3, 3, 4)
        other = (0, 1, 1, 2, 2, 3, 3, 4, 4)
        self.assertEqual(joined(one, other), (0,) * 9)
        self.assertEqual(met(one, other), tuple(range(9)))

    def test_each_pair_of_numbers_is_kept_apart(self):
        one = (0, 1, 2, 3, 4, 5, 6, 7, 8)
        for other in NINE:
            self.assertEqual(met(one, other), one)
            self.assertEqual(met(other, one), one)
            self.assertEqual(joined(one, other), other)
            self.assertEqual(joined(other, one), other)

    def test_by_the_links(self):
        for censers in range(1, 6):
            for one, other in itertools.product(ways_of(censers), repeat=2):
                widest = joined(one, other)
                self.assertTrue(fits_words(widest))
                self.assertEqual(links(widest), closed(links(one) | links(other)))
                narrowest = met(one, other)
                self.assertTrue(fits_words(narrowest))
                self.assertEqual(links(narrowest), links(one) & links(other))

    def test_nine_censers_by_the_links(self):
        for one, other in itertools.product(NINE, repeat=2):
            self.assertEqual(links(joined(one, other)), closed(links(one) | links(other)))
            self.assertEqual(links(met(one, other)), links(one) & links(other))
            self.assertIs(lies_within(one, other), links(one) <= links(other))

    def test_a_way_with_itself(self):
        for way in SMALL + NINE:
            self.assertEqual(joined(way, way), way)
            self.assertEqual(met(way, way), way)
            self.assertIs(lies_within(way, way), True)


class LiesWithin(unittest.TestCase):
    def test_written_out(self):
        self.assertIs(lies_within((0, 1, 2, 1), (0, 0, 1, 0)), True)
        self.assertIs(lies_within((0, 0, 1, 0), (0, 1, 2, 1)), False)
        self.assertIs(lies_within((0, 0, 1, 1), (0, 1, 0, 1)), False)
        self.assertIs(lies_within(tuple(range(9)), (0,) * 9), True)
        self.assertIs(lies_within((0,) * 9, tuple(range(9))), False)

    def test_by_the_links(self):
        for censers in range(1, 6):
            for one, other in itertools.product(ways_of(censers), repeat=2):
                self.assertIs(lies_within(one, other), links(one) <= links(other))

    def test_both_within_just_where_the_joined_one_is(self):
        for censers in range(1, 5):
            for one, other, third in itertools.product(ways_of(censers), repeat=3):
                both = lies_within(one, third) and lies_within(other, third)
                self.assertEqual(both, lies_within(joined(one, other), third))

    def test_within_both_just_where_within_the_met_one(self):
        for censers in range(1, 5):
            for one, other, third in itertools.product(ways_of(censers), repeat=3):
                both = lies_within(third, one) and lies_within(third, other)
                self.assertEqual(both, lies_within(third, met(one, other)))


class Turned(unittest.TestCase):
    def test_written_out(self):
        self.assertEqual(turned((0, 0, 1), [2, 0, 1]), (0, 1, 1))
        self.assertEqual(turned((0, 1, 1, 2), [1, 2, 3, 0]), (0, 0, 1, 2))
        self.assertEqual(turned((0,), [0]), (0,))

    def test_all_orders_of_few_censers(self):
        for censers in range(1, 5):
            for way in ways_of(censers):
                for order in itertools.permutations(range(censers)):
                    told = turned(way, list(order))
                    self.assertTrue(fits_words(told))
                    for k, m in pairs(censers):
                        self.assertEqual(told[k] == told[m], way[order[k]] == way[order[m]])

    def test_turned_back_by_the_order_the_other_way_about(self):
        chosen = random.Random(11)
        for way in SMALL + NINE:
            order = list(range(len(way)))
            for turn in range(4):
                chosen.shuffle(order)
                about = [order.index(k) for k in range(len(way))]
                self.assertEqual(turned(turned(way, order), about), way)

    def test_bad_orders(self):
        wrong = (
            [], [0], [0, 1], [0, 0, 1], [1, 1, 2], [0, 1, 1], [0, 1, 3], [1, 2, 3], [-1, 0, 1], [0, 1, -1],
            [0, 1, 2, 3], [0, 1, 2, 2], [0, 1, 2, 0], [0, 1, 10 ** 31], [0, -10 ** 31, 2], [10 ** 5000, 0, 1],
            list(range(9)), list(range(40)),
        )
        for order in wrong:
            with self.assertRaises(BadOrder):
                turned((0, 1, 0), order)
        for order in ([], [1], [-1], [0, 0], [0, 1]):
            with self.assertRaises(BadOrder):
                turned((0,), order)
        for order in (list(range(8)), list(range(10)), list(range(1, 10)), [0] * 9, list(range(-1, 8))):
            with self.assertRaises(BadOrder):
                turned((0,) * 9, order)

    def test_handed_in_order_stays(self):
        order = [2, 0, 1]
        told = turned((0, 0, 1), order)
        self.assertEqual(order, [2, 0, 1])
        order[0] = 5
        self.assertEqual(told, (0, 1, 1))
        wrong = [2, 2, 0]
        with self.assertRaises(BadOrder):
            turned((0, 0, 1), wrong)
        self.assertEqual(wrong, [2, 2, 0])


if __name__ == "__main__":
    unittest.main()
