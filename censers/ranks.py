"""The order of the ways: their numbers, and how many there are."""

from censers.errors import BadNumber
from censers.ways import check_many, check_way


def endings(left, used):
    """In how many ways so many more censers can follow a row of so many used woods."""
    # Place k of the list stands for k woods more than are used; each step back takes one censer more into account.
    counts = [1] * (left + 1)
    for place in range(left):
        counts = [(used + k) * counts[k] + counts[k + 1] for k in range(left - place)]
    return counts[0]


def many(censers):
    """How many ways of so many censers there are."""
    check_many(censers)
    return endings(censers, 0)


def many_of(censers, count):
    """How many ways of so many censers have so many woods."""
    check_many(censers)
    if not 1 <= count <= censers:
        return 0
    # Place k of the list stands for k woods; no censers at all have none, in one way.
    counts = [1] + [0] * censers
    for censer in range(censers):
        counts = [0] + [counts[k - 1] + k * counts[k] for k in range(1, censers + 1)]
    return counts[count]


def number(way):
    """How many ways come ahead of this one."""
    check_way(way)
    ahead = 0
    used = 0
    for place, wood in enumerate(way):
        # A lesser number here is always one of a used wood, so it leaves as many woods used.
        ahead += wood * endings(len(way) - place - 1, used)
        used = max(used, wood + 1)
    return ahead


def by_number(censers, number):
    """The way of so many censers that has this number."""
    check_many(censers)
    if not 0 <= number < many(censers):
        raise BadNumber("no way has this number")
    ahead = number
    used = 0
    way = []
    for place in range(censers):
        each = endings(censers - place - 1, used)
        # All that lies beyond the used woods belongs to the one new wood.
        wood = min(used, ahead // each)
        ahead -= wood * each
        used = max(used, wood + 1)
        way.append(wood)
    return tuple(way)


def following(way):
    """The next way of as many censers, or None behind the last one."""
    check_way(way)
    for place in reversed(range(1, len(way))):
        if way[place] <= max(way[:place]):
            return way[:place] + (way[place] + 1,) + (0,) * (len(way) - place - 1)
    return None
