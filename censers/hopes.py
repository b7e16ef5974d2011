"""Hopes: the chance that a way fits a listener's sayings, and the likeliest way that does."""

from censers.cases import settled
from censers.chances import check_opening, fraction, orders_behind, picks
from censers.fits import Placing, fit
from censers.gist import gist_of


def sayings_of(opened):
    """The sayings that the opening comes to."""
    pairs = [(one, other) for other in range(len(opened)) for one in range(other)]
    return [("alike" if opened[one] == opened[other] else "unlike", one, other) for one, other in pairs]


def parts(placing, opened):
    """For each lot its bars, the name of the wood that it was opened as, or no text, and its size."""
    # The opened censers are the first ones, so a lot's first one is opened where any of its censers is.
    return [(bars, opened[home] if home < len(opened) else "", placing.labels.count(home))
            for home, bars in zip(placing.firsts, placing.bars)]


def with_part(woods, wood, part):
    """The woods, told as parts are, with one more part in one of them."""
    if wood == len(woods):
        return woods + [part]
    # Lots that were opened come first, and no two of them into one wood, so this part has no name.
    bars, name, size = woods[wood]
    return woods[:wood] + [(bars | part[0], name, size + part[2])] + woods[wood + 1:]


def gathered(placing, opened):
    """Pairs of a count and a way: so many ways end with woods of the same sizes, and this is the first of them."""
    # Where two rows leave the same woods for the lots behind them, whatever follows the one may follow the other.
    states = {(): (1, (), [])}
    for lot, part in enumerate(parts(placing, opened)):
        further = {}
        for count, row, woods in states.values():
            for wood in placing.open_woods(lot, [bars for bars, name, size in woods]):
                fuller = with_part(woods, wood, part)
                key = tuple(sorted([(bars >> (lot + 1), name, size) for bars, name, size in fuller]))
                fresh = (row + (wood,), fuller)
                known = further.get(key, (0, fresh[0], fresh[1]))
                first = min(known[1:], fresh)
                further[key] = (known[0] + count, first[0], first[1])
        states = further
    return [(count, placing.way_with(row)) for count, row, woods in states.values()
            if placing.low <= len(woods) <= placing.high]


class Prospect:
    """What a tray and an opening let a listener's sayings hope for."""

    def __init__(self, tray, opened, sayings):
        check_opening(tray, opened, sayings.censers())
        self.notes = sayings
        self.whole = picks(tray.total(), sayings.censers() - len(opened))
        self.shares = []
        rows = sayings.rows() + sayings_of(opened)
        # A way that the opening speaks against has no chance, so it is left out.
        if settled(sayings.censers(), rows)[0] == "way":
            placing = Placing(gist_of(sayings.censers(), rows))
            self.shares = [(orders_behind(tray, opened, way), count, way) for count, way in gathered(placing, opened)]

    def chance_to_fit(self):
        """The chance that the way fits the sayings."""
        return fraction(sum([orders * count for orders, count, way in self.shares]), self.whole)

    def likeliest_fit(self):
        """Of the ways that fit the one with the greatest chance, of these the first one."""
        hopeful = [(-orders, way) for orders, count, way in self.shares if orders > 0]
        if hopeful:
            return min(hopeful)[1]
        return fit(self.notes, 0)


def hope(tray, opened, sayings):
    """The chance, behind the opening, that the way fits the listener's standing sayings."""
    return Prospect(tray, opened, sayings).chance_to_fit()


def best(tray, opened, sayings):
    """The way, of those that fit the standing sayings, whose chance is the greatest, of these the first one."""
    return Prospect(tray, opened, sayings).likeliest_fit()
