"""What several tests share: ways and links told by the document's words alone, without the program."""

import functools
import itertools

FAR = (10 ** 31, -10 ** 31, 10 ** 5000, -10 ** 5000)

BAD_WAYS = (
    (),
    (1,),
    (-1,),
    (5, 0, 1),
    (0, 2),
    (0, -1),
    (0, 1, 3),
    (0, 1, 0, -1, 1),
    (0, 0, 2, 1),
    (0, 1, 2, 3, 4, 5, 6, 7, 9),
    (0,) * 10,
    tuple(range(10)),
    (0, 1) * 20,
    (10 ** 31,),
    (0, 10 ** 31),
    (0, -10 ** 31),
    (0, 1, 10 ** 5000),
)

OF_UNLIKE_COUNTS = [
    two for two in itertools.permutations([(0,), (0, 0), (0, 1), (0, 1, 0), (0,) * 8, tuple(range(9))], 2)
    if len(two[0]) != len(two[1])
]

# Two rows that are not ways of as many censers.
BAD_TWOS = OF_UNLIKE_COUNTS + [
    two for bad in BAD_WAYS for two in ((bad, (0,)), ((0,), bad), (bad, bad), (bad, (0,) * 9), ((0,) * 9, bad))
]


def fits_words(row):
    """Whether the row is a way, read off the words of the document."""
    if len(row) < 1 or len(row) > 9 or row[0] != 0:
        return False
    return all(0 <= row[k] <= max(row[:k]) + 1 for k in range(1, len(row)))


@functools.cache
def rows_of(censers):
    """All ways of so many censers, by going through all numbers that may come next."""
    if censers == 0:
        return [()]
    longer = (row + (wood,) for row in rows_of(censers - 1) for wood in range(censers))
    return sorted(row for row in longer if fits_words(row))


def ways_of(censers):
    """All ways of so many censers, in their order."""
    return list(rows_of(censers))


def some_ways(censers, most):
    """Ways of so many censers, not many more than asked for, spread evenly, the first and the last one too."""
    rows = rows_of(censers)
    return sorted({*rows[::len(rows) // most + 1], rows[-1]})


def members(way):
    """The lots of the way, as sets, read off its numbers."""
    return [{k for k in range(len(way)) if way[k] == lot} for lot in range(max(way) + 1)]


def pairs(censers):
    """All pairs of censers, each one with itself too, in both orders."""
    return list(itertools.product(range(censers), repeat=2))


def links(way):
    """The pairs of censers that are alike in the way."""
    return {(k, m) for k, m in pairs(len(way)) if way[k] == way[m]}


def closed(linked):
    """The pairs that rows of the linked pairs lead between."""
    while True:
        wider = linked | {(k, n) for k, m in linked for j, n in linked if j == m}
        if wider == linked:
            return linked
        linked = wider
