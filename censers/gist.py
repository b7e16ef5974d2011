"""Sayings one by one, and the gist of a list of them."""

from censers.errors import BadSaying
from censers.ways import check_censer, relabelled

THINGS = {"alike": 3, "unlike": 3, "least": 2, "most": 2}


def check_saying(censers, saying):
    """Refuse a row that is no saying of so many censers."""
    if len(saying) == 0 or THINGS.get(saying[0]) != len(saying):
        raise BadSaying("a saying is alike or unlike of two censers, or least or most of a many")
    if len(saying) == 2:
        if not 1 <= saying[1] <= censers:
            raise BadSaying("a many is from 1 to the count of censers")
        return
    if saying[1] == saying[2]:
        raise BadSaying("two censers are not the same one")
    check_censer(censers, saying[1])
    check_censer(censers, saying[2])


def suits(way, saying):
    """Whether the way fits the saying."""
    word, first = saying[:2]
    if word == "least":
        return max(way) + 1 >= first
    if word == "most":
        return max(way) + 1 <= first
    return (way[first] == way[saying[2]]) == (word == "alike")


class Gist:
    """What sayings come to: the lots that alike ones link, the pairs said to be unlike, and bounds of the woods."""

    def __init__(self, labels, unlikes, low, high):
        self.labels = labels
        self.unlikes = unlikes
        self.low = low
        self.high = high

    def take(self, saying):
        """Take one more saying into account."""
        word, first = saying[:2]
        if word == "least":
            self.low = max(self.low, first)
        elif word == "most":
            self.high = min(self.high, first)
        elif word == "unlike":
            self.unlikes[(first, saying[2])] = True
            self.unlikes[(saying[2], first)] = True
        else:
            low, high = sorted([self.labels[first], self.labels[saying[2]]])
            # A new list, as gists may share the old one.
            self.labels = relabelled(self.labels, high, low)

    def longer(self, saying):
        """The gist with one more saying; this one stays."""
        other = Gist(self.labels, dict(self.unlikes), self.low, self.high)
        other.take(saying)
        return other

    def homes(self):
        """The first censer of each lot, rising."""
        return sorted(set(self.labels))

    def walls(self):
        """The pairs of homes, in both orders, whose lots are told apart, as keys of a dict."""
        return {(self.labels[one], self.labels[other]): True for one, other in self.unlikes}


def gist_of(censers, sayings):
    """The gist of good sayings of so many censers."""
    # Without any saying each censer is a lot by itself, labelled by its own number, as a lot always is by its first
    # censer; and every way has one wood at least and no more than there are censers.
    gist = Gist(list(range(censers)), {}, 1, censers)
    for saying in sayings:
        gist.take(saying)
    return gist
