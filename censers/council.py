"""Councils: the way that agrees best with several ways."""

from censers.errors import BadWay
from censers.ways import check_two_ways, check_way, check_way_of


def agreement(one, other):
    """How many pairs of two censers are alike in both ways or unlike in both."""
    check_two_ways(one, other)
    pairs = [(first, second) for second in range(len(one)) for first in range(second)]
    return len([1 for first, second in pairs if (one[first] == one[second]) == (other[first] == other[second])])


def gains(ways):
    """For each censer, for each one ahead of it, how many more ways have the two alike than unlike."""
    return [[sum([1 if way[first] == way[second] else -1 for way in ways]) for first in range(second)]
            for second in range(len(ways[0]))]


class Search:
    """A walk through all rows of woods in their order, for the first one with the greatest sum of gains."""

    def __init__(self, table):
        self.table = table
        # Place k: what the censers from k on can gain at most.
        self.outlook = [sum([gain for row in table[place:] for gain in row if gain > 0])
                        for place in range(len(table) + 1)]
        self.greatest = None
        self.leader = None

    def follow(self, row, total):
        """Go through all ways that begin with this row, whose gains sum up to the total."""
        place = len(row)
        if self.greatest is not None and total + self.outlook[place] <= self.greatest:
            return
        if place == len(self.table):
            self.greatest = total
            self.leader = row
            return
        for wood in range(max(row, default=-1) + 2):
            gain = sum([worth for worth, other in zip(self.table[place], row) if other == wood])
            self.follow(row + (wood,), total + gain)


def council(ways):
    """The way whose agreements with these ways have the greatest sum, of these the first one."""
    if len(ways) == 0:
        raise BadWay("a council needs one way at least")
    check_way(ways[0])
    for way in ways:
        check_way_of(len(ways[0]), way)
    # Two censers that are alike add, against two that are not, just what they gain.
    search = Search(gains(ways))
    search.follow((), 0)
    return search.leader
