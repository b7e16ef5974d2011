"""Marks: how the lots of a way lie, their heights, and the drawing of a way by signs."""

from censers.errors import BadMark, NoLot
from censers.ways import MOST_CENSERS, lots, way_of


def stretches(way):
    """The first and the last censer of each lot."""
    return [(lot[0], lot[-1]) for lot in lots(way)]


def lying(one, other):
    """How the one stretch lies to the other; two lots never have the same stretch."""
    if one == other:
        return "same"
    if one[1] < other[0] or other[1] < one[0]:
        return "apart"
    if other[0] < one[0] and one[1] < other[1]:
        return "inside"
    if one[0] < other[0] and other[1] < one[1]:
        return "around"
    return "crossing"


def lie(way, lot, other):
    """How the one lot of the way lies to the other: same, apart, inside, around or crossing."""
    spans = stretches(way)
    for place in (lot, other):
        if not 0 <= place < len(spans):
            raise NoLot("no lot has this number")
    return lying(spans[lot], spans[other])


def suits(spans, chosen, height):
    """Whether the next lot may have this height beside those chosen for the lots ahead of it."""
    for place, taken in enumerate(chosen):
        # A lot ahead begins earlier, so it never lies inside the next one.
        lies = lying(spans[place], spans[len(chosen)])
        if lies == "around" and taken <= height:
            return False
        if lies == "crossing" and taken == height:
            return False
    return True


def completed(spans, chosen, greatest):
    """The first good heights, none above the greatest, that begin with those chosen; None where there are none."""
    if len(chosen) == len(spans):
        return chosen
    for height in range(1, greatest + 1):
        if suits(spans, chosen, height):
            found = completed(spans, chosen + [height], greatest)
            if found is not None:
                return found
    return None


def heights(way):
    """The heights of the lots, the greatest as small as can be, and of such the first ones."""
    spans = stretches(way)
    greatest = 1
    found = completed(spans, [], greatest)
    while found is None:
        greatest += 1
        found = completed(spans, [], greatest)
    return found


def is_covered(spans, first, last):
    """Whether one of the stretches has both censers."""
    return any([low <= first and last <= high for low, high in spans])


def censer_sign(own, height, is_lone, is_crossed):
    """The sign, in the row of a height, of a censer whose lot has its own height."""
    if own == height:
        return "|" if is_lone else "+"
    if own > height:
        return "#" if is_crossed else "|"
    return "-" if is_crossed else " "


def row_of(way, levels, height):
    """The row of the mark for one of the heights."""
    spans = [span for span, level in zip(stretches(way), levels) if level == height]
    signs = []
    for censer, lot in enumerate(way):
        if censer > 0:
            signs.append("-" if is_covered(spans, censer - 1, censer) else " ")
        is_lone = way.count(lot) == 1
        signs.append(censer_sign(levels[lot], height, is_lone, is_covered(spans, censer, censer)))
    return "".join(signs)


def mark(way):
    """The way's mark: a row for each height, the greatest first, and a foot."""
    levels = heights(way)
    rows = [row_of(way, levels, height) for height in range(max(levels), 0, -1)]
    rows.append(" ".join(["|"] * len(way)))
    return "\n".join(rows)


def lot_place(rows, censer):
    """A number that, in a mark of these rows, the censers of one lot have in common, and no others."""
    column = 2 * censer
    level = 0
    # Above its own lot's row a censer has nothing but blanks and the strokes of higher lots.
    while level < len(rows) - 1 and rows[level][column] in ("-", " "):
        level += 1
    left = column
    while left > 0 and rows[level][left - 1] == "-":
        left -= 2
    return level * len(rows[level]) + left


def read_mark(text):
    """The way that has this mark."""
    rows = text.split("\n")
    width = len(rows[-1])
    censers = (width + 1) // 2
    if not 1 <= censers <= MOST_CENSERS or any([len(row) != width for row in rows]):
        raise BadMark("the text is no way's mark")
    way = way_of([lot_place(rows, censer) for censer in range(censers)])
    # A text that is no mark leads to some way all the same, but never to one with just this mark.
    if mark(way) != text:
        raise BadMark("the text is no way's mark")
    return way
