"""A listener's sayings: said, withdrawn, and what those that stand tell of two censers."""

from censers.cases import settled
from censers.errors import Clash, NoFit, NoSaying, Withdrawn
from censers.gist import check_saying, suits
from censers.ways import check_censer, check_many


def grown(links, chains, tips):
    """Make the chains at these tips longer by one saying, where that leads to a new tip; the new tips."""
    fresh = []
    for censer, word in tips:
        for number, (kind, first, second) in links:
            if censer not in (first, second) or kind == word == "unlike":
                continue
            tip = (first + second - censer, "unlike" if "unlike" in (word, kind) else "alike")
            if tip not in chains:
                chains[tip] = chains[(censer, word)] + [number]
                fresh.append(tip)
    return fresh


class Sayings:
    """The sayings of one listener for a count of censers; some way fits those that stand."""

    def __init__(self, censers):
        check_many(censers)
        self.size = censers
        # Each saying at the place of its number; None where it stands no more.
        self.given = []

    def censers(self):
        """The count of censers."""
        return self.size

    def said(self):
        """How many numbers were given."""
        return len(self.given)

    def standing(self):
        """The pairs of number and saying that stand, lesser numbers first."""
        return [(number, saying) for number, saying in enumerate(self.given) if saying is not None]

    def rows(self):
        """The sayings that stand, without their numbers."""
        return [saying for saying in self.given if saying is not None]

    def suited(self, way):
        """Whether the way, of as many censers, fits all sayings that stand."""
        return all([suits(way, saying) for saying in self.rows()])

    def settled_with(self, saying):
        """As settled, for the standing sayings with one more behind them."""
        return settled(self.size, self.rows() + [saying])

    def say(self, saying):
        """Say the saying; its number."""
        check_saying(self.size, saying)
        if len(saying) == 3:
            found = self.chain(saying[1], saying[2])
            # Those that stand fit some way, so a ring can come about only by a chain of the other word.
            if found is not None and found[0] != saying[0]:
                raise Clash(found[1])
        word, paper = self.settled_with(saying)
        if word == "none":
            raise NoFit(paper)
        self.given.append(saying)
        return len(self.given) - 1

    def withdraw(self, number):
        """Let the saying of this number stand no more; the saying."""
        if not 0 <= number < len(self.given):
            raise NoSaying("no saying ever got this number")
        saying = self.given[number]
        if saying is None:
            raise Withdrawn("the saying of this number stands no more")
        self.given[number] = None
        return saying

    def check_two(self, one, other):
        """Refuse two numbers that are not both of censers."""
        check_censer(self.size, one)
        check_censer(self.size, other)

    def chain(self, one, other):
        """("alike" or "unlike", the numbers of a shortest chain of the two censers), or None."""
        self.check_two(one, other)
        links = [(number, saying) for number, saying in self.standing() if len(saying) == 3]
        # A tip is the censer that a chain has come to, with the word that the chain tells of the first one and it.
        chains = {(one, "alike"): []}
        tips = list(chains)
        while tips:
            for censer, word in tips:
                if censer == other:
                    return word, chains[(censer, word)]
            tips = grown(links, chains, tips)
        return None

    def told(self, one, other):
        """What all ways that fit tell of the two censers: "alike", "unlike" or "either"."""
        return self.why(one, other)[0]

    def why(self, one, other):
        """What is told of the two censers, with the paper or the two ways that show it."""
        self.check_two(one, other)
        if one == other:
            return ("alike", None)
        first = self.settled_with(("alike", one, other))
        if first[0] == "none":
            return ("unlike", first[1])
        second = self.settled_with(("unlike", one, other))
        if second[0] == "none":
            return ("alike", second[1])
        return ("either", first[1], second[1])

    def twin(self):
        """Other sayings that stand alike, of which each goes its own way."""
        other = Sayings(self.size)
        other.given = list(self.given)
        return other
