"""What several tests share: ways and links told by the document's words alone, without the program."""

import itertools

FAR = (10 ** 31, -10 ** 31, 10 ** 5000, -10 ** 5000)

BAD_WAYS = (
    (),
    (1,),
    (-1,),
    (5, 0, 1),
    (0, 2),
    (0, -1),
    (0, 1, 3),
    (0, 1, 0, -1, 1),
    (0, 0, 2, 1),
    (0, 1, 2, 3, 4, 5, 6, 7, 9),
    (0,) * 10,
    tuple(range(10)),
    (0, 1) * 20,
    (10 ** 31,),
    (0, 10 ** 31),
    (0, -10 ** 31),
    (0, 1, 10 ** 5000),
)


def fits_words(row):
    """Whether the row is a way, read off the words of the document."""
    if len(row) < 1 or len(row) > 9 or row[0] != 0:
        return False
    return all(0 <= row[k] <= max(row[:k]) + 1 for k in range(1, len(row)))


def ways_of(censers):
    """All ways of a few censers in their order, by going through all rows."""
    rows = itertools.product(range(censers), repeat=censers)
    return sorted(row for row in rows if fits_words(row))


def pairs(censers):
    """All pairs of censers, each one with itself too, in both orders."""
    return list(itertools.product(range(censers), repeat=2))


def links(way):
    """The pairs of censers that are alike in the way."""
    return {(k, m) for k, m in pairs(len(way)) if way[k] == way[m]}


def closed(linked):
    """The pairs that rows of the linked pairs lead between."""
    while True:
        wider = linked | {(k, n) for k, m in linked for j, n in linked if j == m}
        if wider == linked:
            return linked
        linked = wider
