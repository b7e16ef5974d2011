"""Cases: whether some way fits sayings, with the way, or with a paper that shows that none does."""

from censers.gist import check_saying, gist_of
from censers.ways import check_many, way_of

PAPER_THINGS = {"ring": 3, "counts": 1, "few": 1, "many": 2, "cases": 5}


def checked_gist(censers, sayings):
    """The gist of the sayings; a bad count of censers and the first bad saying are refused."""
    check_many(censers)
    for saying in sayings:
        check_saying(censers, saying)
    return gist_of(censers, sayings)


def crowd(homes, walls, size):
    """So many of the homes, each two of them told apart, or None."""
    if size == 0:
        return []
    for place, home in enumerate(homes):
        if len(homes) - place < size:
            break
        others = crowd([later for later in homes[place + 1:] if (home, later) in walls], walls, size - 1)
        if others is not None:
            return [home] + others
    return None


def plain_paper(gist):
    """A paper without cases that no way fits, or None."""
    for one, other in gist.unlikes:
        if gist.labels[one] == gist.labels[other]:
            return ("ring", one, other)
    if gist.low > gist.high:
        return ("counts",)
    if len(gist.homes()) < gist.low:
        return ("few",)
    found = crowd(gist.homes(), gist.walls(), gist.high + 1)
    if found is not None:
        return ("many", tuple(found))
    return None


def apart_from_both(homes, walls, one, other):
    """How many lots are told apart from the one as well as from the other."""
    return len([home for home in homes if (one, home) in walls and (other, home) in walls])


def open_pair(gist):
    """Two lots, by their homes, that are not told apart from one another."""
    homes = gist.homes()
    walls = gist.walls()
    pairs = [(one, other) for one in homes for other in homes if one < other and (one, other) not in walls]
    # Where many others are told apart from both, the cases soon end in a crowd, so that papers stay short.
    return max(pairs, key=lambda pair: apart_from_both(homes, walls, pair[0], pair[1]))


def settle(gist):
    """As settled, by the gist of the sayings."""
    paper = plain_paper(gist)
    if paper is not None:
        return ("none", paper)
    if len(gist.homes()) <= gist.high:
        return ("way", way_of(gist.labels))
    # More lots than woods, and no paper: not each two of them are told apart.
    one, other = open_pair(gist)
    first = settle(gist.longer(("alike", one, other)))
    if first[0] == "way":
        return first
    second = settle(gist.longer(("unlike", one, other)))
    if second[0] == "way":
        return second
    return ("none", ("cases", one, other, first[1], second[1]))


def settled(censers, sayings):
    """("way", a way that fits the sayings), or ("none", a paper that shows that no way does)."""
    return settle(checked_gist(censers, sayings))


def is_crowd(gist, row):
    """Whether these are censers, none twice, more than there may be woods, each two of them told apart."""
    if len(set(row)) != len(row) or not all([0 <= censer < len(gist.labels) for censer in row]):
        return False
    walls = gist.walls()
    homes = [gist.labels[censer] for censer in row]
    pairs = [(one, other) for place, one in enumerate(homes) for other in homes[:place]]
    return len(row) > gist.high and all([pair in walls for pair in pairs])


def is_cases(gist, one, other, papers):
    """Whether the two papers are papers for both cases of the two censers."""
    censers = len(gist.labels)
    if one == other or not (0 <= one < censers and 0 <= other < censers):
        return False
    words = ("alike", "unlike")
    return all([is_paper(gist.longer((word, one, other)), paper) for word, paper in zip(words, papers)])


def is_paper(gist, paper):
    """Whether the row is a paper for sayings of this gist."""
    if len(paper) == 0 or PAPER_THINGS.get(paper[0]) != len(paper):
        return False
    word = paper[0]
    if word == "counts":
        return gist.low > gist.high
    if word == "few":
        return len(gist.homes()) < gist.low
    if word == "many":
        return is_crowd(gist, paper[1])
    one, other = paper[1:3]
    if word == "ring":
        return (one, other) in gist.unlikes and gist.labels[one] == gist.labels[other]
    return is_cases(gist, one, other, paper[3:])


def shows(censers, sayings, paper):
    """Whether the row is a paper that no way fits the sayings."""
    return is_paper(checked_gist(censers, sayings), paper)
