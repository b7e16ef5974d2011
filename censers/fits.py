"""The ways that fit a listener's standing sayings: counted, numbered, with the fewest and the most woods."""

from censers.errors import BadNumber
from censers.gist import gist_of
from censers.ways import check_way_of


class Placing:
    """Lots, as the alike sayings link them, placed into woods one behind another.

    Their order is that of their first censers, so what comes ahead among the lots' rows of woods does so among ways.
    A wood is kept as a number whose bit k tells that lot k may not come into it.
    """

    def __init__(self, gist):
        homes = gist.homes()
        walls = gist.walls()
        self.labels = gist.labels
        self.firsts = homes
        self.bars = [sum([1 << k for k, other in enumerate(homes) if (home, other) in walls]) for home in homes]
        self.low = gist.low
        self.high = gist.high
        self.reckoned = {}

    def open_woods(self, lot, shut):
        """The woods that the lot may come into, by their numbers; the last one is new."""
        return [wood for wood, bars in enumerate(shut) if (bars >> lot) & 1 == 0] + [len(shut)]

    def placed(self, lot, shut, wood):
        """The woods with the lot placed into one of them."""
        if wood == len(shut):
            return shut + [self.bars[lot]]
        return shut[:wood] + [shut[wood] | self.bars[lot]] + shut[wood + 1:]

    def endings(self, lot, shut):
        """In how many ways this lot and those behind it can be placed, by how many woods there are in the end."""
        if lot == len(self.bars):
            return {len(shut): 1}
        # Neither the order of the woods nor the lots that are placed already make a difference for the others.
        key = (lot, tuple(sorted([bars >> lot for bars in shut])))
        if key not in self.reckoned:
            counts = {}
            for wood in self.open_woods(lot, shut):
                for many, count in self.endings(lot + 1, self.placed(lot, shut, wood)).items():
                    counts[many] = counts.get(many, 0) + count
            self.reckoned[key] = counts
        return self.reckoned[key]

    def fitting(self, lot, shut):
        """As endings, all those together that keep to the bounds of the woods."""
        counts = self.endings(lot, shut)
        return sum([counts.get(many, 0) for many in range(self.low, self.high + 1)])

    def way_with(self, chosen):
        """The way in which each lot is of the wood chosen for it."""
        return tuple([chosen[self.firsts.index(label)] for label in self.labels])


def placing_by(sayings):
    """The lots of the listener's standing sayings, to be placed."""
    return Placing(gist_of(sayings.censers(), sayings.rows()))


def by_woods(sayings):
    """How many ways that fit have one wood, two, and so on to as many as there are censers."""
    placing = placing_by(sayings)
    counts = placing.endings(0, [])
    return [counts.get(many, 0) if placing.low <= many <= placing.high else 0
            for many in range(1, sayings.censers() + 1)]


def fits(sayings):
    """How many ways fit."""
    return sum(by_woods(sayings))


def fit(sayings, number):
    """The way that fits of this number."""
    placing = placing_by(sayings)
    if not 0 <= number < placing.fitting(0, []):
        raise BadNumber("no way that fits has this number")
    ahead = number
    shut = []
    chosen = []
    for lot in range(len(placing.bars)):
        for wood in placing.open_woods(lot, shut):
            further = placing.placed(lot, shut, wood)
            count = placing.fitting(lot + 1, further)
            if ahead < count:
                break
            ahead -= count
        shut = further
        chosen.append(wood)
    return placing.way_with(chosen)


def fit_number(sayings, way):
    """The number of the way among those that fit, or None where it does not fit."""
    check_way_of(sayings.censers(), way)
    if not sayings.suited(way):
        return None
    placing = placing_by(sayings)
    ahead = 0
    shut = []
    for lot, home in enumerate(placing.firsts):
        for wood in placing.open_woods(lot, shut):
            if wood < way[home]:
                ahead += placing.fitting(lot + 1, placing.placed(lot, shut, wood))
        shut = placing.placed(lot, shut, way[home])
    return ahead


def first_that_fits(sayings, word, counts):
    """The first many of which a saying by this word can stand with the others, a way, and a paper for the one ahead."""
    paper = None
    for many in counts:
        verdict, found = sayings.settled_with((word, many))
        if verdict == "way":
            return many, found, paper
        paper = found
    return None


def fewest(sayings):
    """The fewest woods of a way that fits, such a way, and a paper that fewer will not do (None for one wood)."""
    return first_that_fits(sayings, "most", list(range(1, sayings.censers() + 1)))


def most(sayings):
    """The most woods of a way that fits, such a way, and a paper that more will not do (None for all censers)."""
    return first_that_fits(sayings, "least", list(range(sayings.censers(), 0, -1)))
