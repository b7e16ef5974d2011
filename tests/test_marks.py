import functools
import itertools
import unittest

from censers.errors import BadMark, BadWay, NoLot
from censers.marks import heights, lie, mark, read_mark
from tests.helper import BAD_WAYS, FAR, members, some_ways, ways_of

SMALL = [way for censers in range(1, 6) for way in ways_of(censers)]
LARGE = [way for censers in range(6, 10) for way in some_ways(censers, 300)]
TURNED = {"same": "same", "apart": "apart", "inside": "around", "around": "inside", "crossing": "crossing"}

# Each mark with a row of its own for each height, greatest first, and the foot.
DRAWN = {
    (0,): [
        "|",
        "|",
    ],
    (0, 0): [
        "+-+",
        "| |",
    ],
    (0, 1): [
        "| |",
        "| |",
    ],
    (0, 1, 0): [
        "+---+",
        "| | |",
        "| | |",
    ],
    (0, 0, 1): [
        "+-+ |",
        "| | |",
    ],
    (0, 1, 0, 1): [
        "  +---+",
        "+-#-+ |",
        "| | | |",
    ],
    (0, 0, 1, 1): [
        "+-+ +-+",
        "| | | |",
    ],
    (0, 1, 1, 0): [
        "+-----+",
        "| +-+ |",
        "| | | |",
    ],
    (0, 1, 2, 1, 0): [
        "+-------+",
        "| +---+ |",
        "| | | | |",
        "| | | | |",
    ],
    (0, 1, 0, 2, 1): [
        "  +-----+",
        "+-#-+ | |",
        "| | | | |",
    ],
    (0, 1, 2, 0, 1): [
        "  +-----+",
        "+-#---+ |",
        "| | | | |",
        "| | | | |",
    ],
    (0, 1, 2, 0, 1, 2): [
        "    +-----+",
        "  +-#---+ |",
        "+-#-#-+ | |",
        "| | | | | |",
    ],
    (0, 1, 0, 2, 1, 2): [
        "  +-----+  ",
        "+-#-+ +-#-+",
        "| | | | | |",
    ],
    (0, 1, 1, 2, 0, 2): [
        "+-------+  ",
        "| +-+ +-#-+",
        "| | | | | |",
    ],
    (0, 1, 0, 2, 1, 3, 0, 4, 2): [
        "      +---------+",
        "+---+-#-----+   |",
        "| +-#-#-+ | | | |",
        "| | | | | | | | |",
    ],
    (0, 1, 2, 3, 4, 3, 2, 1, 0): [
        "+---------------+",
        "| +-----------+ |",
        "| | +-------+ | |",
        "| | | +---+ | | |",
        "| | | | | | | | |",
        "| | | | | | | | |",
    ],
    (0, 1, 2, 3, 4, 5, 6, 7, 8): [
        "| | | | | | | | |",
        "| | | | | | | | |",
    ],
    (0,) * 9: [
        "+-+-+-+-+-+-+-+-+",
        "| | | | | | | | |",
    ],
}


@functools.cache
def all_marks():
    """The ways of one to nine censers by their marks."""
    return {mark(way): way for censers in range(1, 10) for way in ways_of(censers)}


def stretch(lot):
    return set(range(min(lot), max(lot) + 1))


def lies(way, lot, other):
    """How the lots lie, by the words of the document, with stretches as sets of censers."""
    one, another = [stretch(members(way)[k]) for k in (lot, other)]
    if lot == other:
        return "same"
    if not one & another:
        return "apart"
    if one <= another:
        return "inside"
    return "around" if one >= another else "crossing"


def table(way):
    count = max(way) + 1
    return {(k, m): lies(way, k, m) for k in range(count) for m in range(count)}


def are_good(told, lying):
    inside = all(told[k] < told[m] for (k, m), how in lying.items() if how == "inside")
    return inside and all(told[k] != told[m] for (k, m), how in lying.items() if how == "crossing")


def lowest(way):
    """The heights of the way's lots, by going through all rows of heights."""
    lying = table(way)
    for greatest in itertools.count(1):
        for row in itertools.product(range(1, greatest + 1), repeat=max(way) + 1):
            if are_good(row, lying):
                return list(row)


def sign_of(way, told, height, place):
    """The sign at a place of a height's row, by the words of the document."""
    spans = [stretch(lot) for lot, high in zip(members(way), told) if high == height]
    censer = place // 2
    crossed = any(censer in span for span in spans)
    if place != 2 * censer:
        return "-" if any({censer, censer + 1} <= span for span in spans) else " "
    if told[way[censer]] == height:
        return "|" if way.count(way[censer]) == 1 else "+"
    if told[way[censer]] > height:
        return "#" if crossed else "|"
    return "-" if crossed else " "


def drawn(way):
    """The mark of a row, by the words of the document; of one of more than nine numbers too."""
    told = lowest(way)
    places = range(2 * len(way) - 1)
    rows = ["".join(sign_of(way, told, height, place) for place in places) for height in range(max(told), 0, -1)]
    return "\n".join(rows + [" ".join("|" * len(way))])


class Lie(unittest.TestCase):
    def test_all_pairs_of_lots(self):
        for way in SMALL + LARGE:
            for (lot, other), how in table(way).items():
                self.assertEqual(lie(way, lot, other), how, (way, lot, other))

    def test_a_lot_with_itself(self):
        for way in SMALL + LARGE:
            for lot in range(max(way) + 1):
                self.assertEqual(lie(way, lot, lot), "same")

    def test_the_other_way_round(self):
        for way in SMALL + LARGE:
            for lot, other in table(way):
                self.assertEqual(lie(way, other, lot), TURNED[lie(way, lot, other)])

    def test_ordinary_lots(self):
        way = (0, 1, 0, 2, 1, 3, 0, 4, 2)
        self.assertEqual(lie(way, 0, 1), "around")
        self.assertEqual(lie(way, 1, 0), "inside")
        self.assertEqual(lie(way, 0, 2), "crossing")
        self.assertEqual(lie(way, 2, 0), "crossing")
        self.assertEqual(lie(way, 1, 3), "apart")
        self.assertEqual(lie(way, 3, 0), "inside")
        self.assertEqual(lie(way, 0, 4), "apart")
        self.assertEqual(lie(way, 4, 2), "inside")
        self.assertEqual(lie(way, 3, 3), "same")

    def test_neighbours_are_apart(self):
        self.assertEqual(lie((0, 0, 1, 1), 0, 1), "apart")
        self.assertEqual(lie((0, 0, 1, 1), 1, 0), "apart")
        self.assertEqual(lie((0, 1), 0, 1), "apart")

    def test_numbers_outside(self):
        for way in SMALL + LARGE[::50]:
            count = max(way) + 1
            for outside in (-1, -2, -count, count, count + 1, 9) + FAR:
                for lot, other in ((outside, 0), (0, outside), (count - 1, outside), (outside, outside)):
                    with self.assertRaises(NoLot):
                        lie(way, lot, other)

    def test_numbers_of_censers_are_none_of_lots(self):
        with self.assertRaises(NoLot):
            lie((0, 0, 0), 0, 2)

    def test_bad_ways(self):
        for way in BAD_WAYS:
            for lot, other in ((0, 0), (0, 1), (-1, 0), (0, 99), (10 ** 31, -10 ** 31)):
                with self.assertRaises(BadWay):
                    lie(way, lot, other)


class Heights(unittest.TestCase):
    def test_lower_inside_and_unlike_where_two_cross(self):
        for way in SMALL + LARGE:
            told = heights(way)
            self.assertEqual(len(told), max(way) + 1)
            self.assertGreaterEqual(min(told), 1)
            self.assertTrue(are_good(told, table(way)), way)

    def test_the_lowest_and_of_these_the_first(self):
        for way in SMALL + ways_of(6) + ways_of(7)[::3] + some_ways(8, 150) + some_ways(9, 150):
            self.assertEqual(heights(way), lowest(way), way)

    def test_ordinary_ways(self):
        self.assertEqual(heights((0,)), [1])
        self.assertEqual(heights((0, 1, 2)), [1, 1, 1])
        self.assertEqual(heights((0, 1, 0)), [2, 1])
        self.assertEqual(heights((0, 1, 0, 1)), [1, 2])
        self.assertEqual(heights((0, 1, 2, 0, 1)), [2, 3, 1])
        self.assertEqual(heights((0, 1, 0, 2, 1, 2)), [1, 2, 1])
        self.assertEqual(heights((0, 1, 1, 2, 0, 2)), [2, 1, 1])
        self.assertEqual(heights((0, 1, 0, 2, 1, 3, 0, 4, 2)), [2, 1, 3, 1, 1])
        self.assertEqual(heights((0, 1, 2, 3, 4, 3, 2, 1, 0)), [5, 4, 3, 2, 1])
        self.assertEqual(heights((0, 1, 2, 3, 0, 1, 2, 3, 4)), [1, 2, 3, 4, 1])

    def test_the_list_is_fresh(self):
        heights((0, 1, 0)).append(7)
        heights((0, 1, 0))[0] = 9
        self.assertEqual(heights((0, 1, 0)), [2, 1])

    def test_bad_ways(self):
        for way in BAD_WAYS:
            with self.assertRaises(BadWay):
                heights(way)


class Mark(unittest.TestCase):
    def test_written_out(self):
        for way, rows in DRAWN.items():
            self.assertEqual(mark(way), "\n".join(rows), way)

    def test_by_the_words_of_the_document(self):
        for way in SMALL + LARGE[::7]:
            self.assertEqual(mark(way), drawn(way), way)

    def test_rows_are_of_one_width(self):
        for way in SMALL + LARGE:
            rows = mark(way).split("\n")
            self.assertEqual(len(rows), max(heights(way)) + 1)
            self.assertEqual({len(row) for row in rows}, {2 * len(way) - 1})
            self.assertEqual(rows[-1], " ".join("|" * len(way)))

    def test_bad_ways(self):
        for way in BAD_WAYS:
            with self.assertRaises(BadWay):
                mark(way)


class ReadMark(unittest.TestCase):
    def refused(self, text):
        with self.assertRaises(BadMark, msg=repr(text)):
            read_mark(text)

    def read_or_refused(self, text):
        if text in all_marks():
            self.assertEqual(read_mark(text), all_marks()[text])
        else:
            self.refused(text)

    def test_written_out(self):
        for way, rows in DRAWN.items():
            self.assertEqual(read_mark("\n".join(rows)), way)

    def test_each_mark_back_to_its_way(self):
        for way in SMALL + ways_of(6) + LARGE:
            self.assertEqual(read_mark(mark(way)), way)

    def test_signs_changed_put_in_and_taken_out(self):
        for way in SMALL[:23] + SMALL[23::4]:
            text = mark(way)
            for place in range(len(text) + 1):
                for sign in "+-#| \n.aX0":
                    self.read_or_refused(text[:place] + sign + text[place:])
                    self.read_or_refused(text[:place] + sign + text[place + 1:])
                self.read_or_refused(text[:place] + text[place + 1:])

    def test_a_sign_changed_in_marks_of_nine(self):
        for way in some_ways(9, 12) + [way for way in DRAWN if len(way) == 9]:
            text = mark(way)
            for place in range(len(text)):
                for sign in "+-#| ":
                    self.read_or_refused(text[:place] + sign + text[place + 1:])

    def test_rows_twice_gone_and_exchanged(self):
        for way in SMALL + LARGE[::9] + list(DRAWN):
            rows = mark(way).split("\n")
            for place in range(len(rows)):
                self.read_or_refused("\n".join(rows[:place + 1] + rows[place:]))
                self.read_or_refused("\n".join(rows[:place] + rows[place + 1:]))
            for one, other in itertools.combinations(range(len(rows)), 2):
                changed = list(rows)
                changed[one], changed[other] = rows[other], rows[one]
                self.read_or_refused("\n".join(changed))

    def test_blanks_and_line_feeds_ahead_and_behind(self):
        for way in SMALL + LARGE[::9] + list(DRAWN):
            text = mark(way)
            width = 2 * len(way) - 1
            for added in ("\n", " ", "\n" * 3, " " * width + "\n", "\n" + " " * width, "\n ", " \n"):
                self.refused(added + text)
                self.refused(text + added)

    def test_blanks_behind_and_ahead_of_each_row(self):
        for way in SMALL + LARGE[::9]:
            rows = mark(way).split("\n")
            for blanks in (" ", "  "):
                for place in range(len(rows)):
                    for row in (rows[place] + blanks, blanks + rows[place], rows[place][:-1]):
                        self.refused("\n".join(rows[:place] + [row] + rows[place + 1:]))
                self.refused("\n".join(row + blanks for row in rows))
                self.refused("\n".join(blanks + row for row in rows))

    def test_blanks_of_a_row_left_out(self):
        self.refused("  +-----+\n+-#-+ +-#-+\n| | | | | |")
        self.refused("+-+\n|")
        self.refused("+-+\n| | |")

    def test_heights_that_are_not_told(self):
        # Both are drawn by the words, but for heights that are not the lowest or not the first ones.
        self.refused("+---+  \n| +-#-+\n| | | |")
        self.refused("+-+    \n| | +-+\n| | | |")

    def test_more_than_nine_censers(self):
        rows = [(0,) * 10, tuple(range(10)), (0, 1) * 5, (0, 1, 2, 3, 4, 4, 3, 2, 1, 0), (0, 1) + (2,) * 12]
        for row in rows:
            self.refused(drawn(row))
        self.refused("\n".join(["+-" * 4999 + "+", "| " * 4999 + "|"]))

    def test_no_signs_and_other_texts(self):
        texts = ["", " ", "|", "\n", "|\n", "\n|", "+\n|", "-\n|", "#\n|", "|\n|\n|", "| |", "way", "0 1 0", "||\n||"]
        texts += ["+-+\n+-+", "+-+\n   ", "+-+\n|-|", "+-+\n| #", "\t\n\t", "\n" * 1000, " " * 1000, "|\n" * 1000 + "|"]
        for text in texts:
            self.refused(text)


if __name__ == "__main__":
    unittest.main()
