"""What several tests share: ways, chances, sayings and papers told by the document's words, and listeners' sayings.

Only what makes a Sayings draws on the program; of a tray no more is asked than what it has.
"""

import copy
import functools
import itertools
import math
import random
from fractions import Fraction

from censers.errors import CenserError
from censers.sayings import Sayings

FAR = (10 ** 31, -10 ** 31, 10 ** 5000, -10 ** 5000)

BAD_WAYS = (
    (),
    (1,),
    (-1,),
    (5, 0, 1),
    (0, 2),
    (0, -1),
    (0, 1, 3),
    (0, 1, 0, -1, 1),
    (0, 0, 2, 1),
    (0, 1, 2, 3, 4, 5, 6, 7, 9),
    (0,) * 10,
    tuple(range(10)),
    (0, 1) * 20,
    (10 ** 31,),
    (0, 10 ** 31),
    (0, -10 ** 31),
    (0, 1, 10 ** 5000),
)

OF_UNLIKE_COUNTS = [
    two for two in itertools.permutations([(0,), (0, 0), (0, 1), (0, 1, 0), (0,) * 8, tuple(range(9))], 2)
    if len(two[0]) != len(two[1])
]

# Two rows that are not ways of as many censers.
BAD_TWOS = OF_UNLIKE_COUNTS + [
    two for bad in BAD_WAYS for two in ((bad, (0,)), ((0,), bad), (bad, bad), (bad, (0,) * 9), ((0,) * 9, bad))
]


def fits_words(row):
    """Whether the row is a way, read off the words of the document."""
    if len(row) < 1 or len(row) > 9 or row[0] != 0:
        return False
    return all(0 <= row[k] <= max(row[:k]) + 1 for k in range(1, len(row)))


@functools.cache
def rows_of(censers):
    """All ways of so many censers, by going through all numbers that may come next."""
    if censers == 0:
        return [()]
    longer = (row + (wood,) for row in rows_of(censers - 1) for wood in range(censers))
    return sorted(row for row in longer if fits_words(row))


def ways_of(censers):
    """All ways of so many censers, in their order."""
    return list(rows_of(censers))


def some_ways(censers, most):
    """Ways of so many censers, not many more than asked for, spread evenly, the first and the last one too."""
    rows = rows_of(censers)
    return sorted({*rows[::len(rows) // most + 1], rows[-1]})


def members(way):
    """The lots of the way, as sets, read off its numbers."""
    return [{k for k in range(len(way)) if way[k] == lot} for lot in range(max(way) + 1)]


def pairs(censers):
    """All pairs of censers, each one with itself too, in both orders."""
    return list(itertools.product(range(censers), repeat=2))


def links(way):
    """The pairs of censers that are alike in the way."""
    return {(k, m) for k, m in pairs(len(way)) if way[k] == way[m]}


def closed(linked):
    """The pairs that rows of the linked pairs lead between."""
    while True:
        wider = linked | {(k, n) for k, m in linked for j, n in linked if j == m}
        if wider == linked:
            return linked
        linked = wider


def told(share):
    """The share as a pair."""
    return (share.numerator, share.denominator)


def names_of(tray):
    """The names of the tray's woods."""
    return [name for name, packets in tray.all_woods()]


def filled(tray, names):
    """The chance of the row of names, one packet behind another."""
    left, share = dict(tray.all_woods()), Fraction(1)
    for name in names:
        share *= Fraction(left[name], sum(left.values()))
        if share == 0:
            return share
        left[name] -= 1
    return share


def pattern(names):
    """The way of a row of names: each one's place among those that are new."""
    fresh = list(dict.fromkeys(names))
    return tuple(fresh.index(name) for name in names)


@functools.cache
def shares(tray, opened, censers):
    """The chance of each way behind the opening, by all rows of names; no way without a chance."""
    found = {}
    for names in itertools.product(names_of(tray), repeat=censers - len(opened)):
        way = pattern(opened + names)
        found[way] = found.get(way, 0) + filled(tray, names)
    return {way: share for way, share in found.items() if share}


def by_choices(tray, opened, way):
    """The chance of the way behind the opening, by all choices of a wood for each lot."""
    left, total = dict(tray.all_woods()), 0
    shut = way[len(opened):]
    for woods in itertools.permutations(left, max(way) + 1):
        if all(woods[lot] == name for lot, name in zip(way, opened)):
            total += math.prod(math.perm(left[name], shut.count(lot)) for lot, name in enumerate(woods))
    return Fraction(total, math.perm(tray.total(), len(shut)))


def all_sayings(censers):
    """All sayings of so many censers."""
    twos = [(one, other) for one, other in pairs(censers) if one != other]
    found = [(word, one, other) for word in ("alike", "unlike") for one, other in twos]
    return found + [(word, many) for word in ("least", "most") for many in range(1, censers + 1)]


def bad_sayings(censers):
    """Rows that are no sayings of so many censers for another reason than a censer outside."""
    found = [(), ("alike",), ("alike", 0), ("alike", 0, 1, 2), ("unlike",), ("unlike", 0), ("unlike", 0, 1, 1)]
    found += [("least",), ("least", 1, 1), ("most",), ("most", 1, 0), ("same", 0, 1), ("Alike", 0, 1), ("", 0, 1)]
    found += [("alike ", 0, 1), ("exactly", 1), ("few",), ("ring", 0, 1)]
    found += [(word, many) for word in ("least", "most") for many in (0, -1, censers + 1, 10) + FAR]
    same = (0, censers - 1, censers, 10, -1) + FAR
    return found + [(word, censer, censer) for word in ("alike", "unlike") for censer in same]


def outside_sayings(censers):
    """Sayings of so many censers with a censer outside, in the first place, in the second, in both."""
    found = []
    for word in ("alike", "unlike"):
        for bad in (-1, censers, censers + 1) + FAR:
            found += [(word, bad, 0), (word, 0, bad), (word, bad, bad + 1)]
    return found


def fits_saying(way, saying):
    """Whether the way fits the saying, read off the words of the document."""
    word, *things = saying
    if word in ("alike", "unlike"):
        return (way[things[0]] == way[things[1]]) == (word == "alike")
    return len(set(way)) >= things[0] if word == "least" else len(set(way)) <= things[0]


def fitting(censers, sayings):
    """All ways that fit the sayings, in their order."""
    return [way for way in rows_of(censers) if all(fits_saying(way, saying) for saying in sayings)]


def things_of(sayings, word):
    """What stands behind this word in the sayings."""
    return [tuple(saying[1:]) for saying in sayings if saying[0] == word]


def ties(censers, sayings):
    """The pairs of censers that alike sayings link, each one with itself too."""
    alike = things_of(sayings, "alike")
    return closed({(k, k) for k in range(censers)} | set(alike) | {(m, k) for k, m in alike})


def is_crowd(censers, sayings, row):
    """Whether the row has more censers than some most, none twice, each two of them told apart."""
    unlike, tied = things_of(sayings, "unlike"), ties(censers, sayings)
    if len(set(row)) != len(row) or not set(row) <= set(range(censers)):
        return False
    apart = {(k, m) for one, other in unlike for k, m in pairs(censers) if {(k, one), (m, other)} <= tied}
    told_apart = all((k, m) in apart or (m, k) in apart for k, m in itertools.combinations(row, 2))
    return told_apart and any(len(row) > many for many, in things_of(sayings, "most"))


def is_paper(censers, sayings, paper):
    """Whether the row is a paper that no way fits the sayings, walked row by row by the words of the document."""
    word, *things = paper
    leasts, mosts = things_of(sayings, "least"), things_of(sayings, "most")
    tied = ties(censers, sayings)
    if word == "ring" and len(things) == 2:
        unlike = things_of(sayings, "unlike")
        return (tuple(things) in unlike or tuple(things[::-1]) in unlike) and tuple(things) in tied
    if word == "counts" and len(things) == 0:
        return any(least > most for least in leasts for most in mosts)
    if word == "few" and len(things) == 0:
        lots = {frozenset(m for m in range(censers) if (k, m) in tied) for k in range(censers)}
        return any(len(lots) < least for least, in leasts)
    if word == "many" and len(things) == 1:
        return is_crowd(censers, sayings, things[0])
    if word == "cases" and len(things) == 4:
        one, other, first, second = things
        return (one != other and {one, other} <= set(range(censers))
                and is_paper(censers, sayings + [("alike", one, other)], first)
                and is_paper(censers, sayings + [("unlike", one, other)], second))
    return False


def made(censers, said):
    """Sayings with these said."""
    sayings = Sayings(censers)
    for saying in said:
        sayings.say(saying)
    return sayings


def some_made(censers, turns, seed):
    """Sayings said, as far as they are taken, and withdrawn at random, in so many turns; the same in each run."""
    source = random.Random(seed)
    sayings = Sayings(censers)
    # Of two censers there are far more sayings than of counts.
    choice = all_sayings(censers) + all_sayings(censers)[-2 * censers:] * (censers // 3)
    for turn in range(turns):
        if sayings.standing() and source.random() < 0.2:
            sayings.withdraw(source.choice(sayings.standing())[0])
        else:
            try:
                sayings.say(source.choice(choice))
            except CenserError:
                continue
    return sayings


def rows_said(sayings):
    """The standing sayings without their numbers."""
    return [saying for number, saying in sayings.standing()]


def outlook(room):
    """All that the room tells, but by hope and best."""
    facts = [room.tray().all_woods(), room.listeners(), room.standings(), room.under_way()]
    facts += [room.points(name) for name in room.listeners()]
    facts += [room.gone_by(number) for number in range(room.rounds())]
    if room.under_way():
        facts += [room.censers(), room.opened()]
        for name in room.listeners():
            sayings = room.sayings(name)
            facts += [sayings.standing(), sayings.said(), sayings.censers(), room.written(name)]
    # A list that the room should keep to itself may be changed behind this.
    return copy.deepcopy(facts)
