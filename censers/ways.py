"""Ways: rows of numbers that tell which censers are of one wood."""

from censers.errors import BadMany, BadOrder, BadWay, NoCenser

MOST_CENSERS = 9


def is_way(row):
    """Whether the row of numbers is a way."""
    if not 1 <= len(row) <= MOST_CENSERS:
        return False
    fresh = 0
    for wood in row:
        if not 0 <= wood <= fresh:
            return False
        if wood == fresh:
            fresh += 1
    return True


# The refusals' words never show what was handed in: Python refuses to write out a number of very many figures.
def check_many(censers):
    """Refuse what is no count of censers."""
    if not 1 <= censers <= MOST_CENSERS:
        raise BadMany("there are 1 to 9 censers")


def check_way(way):
    """Refuse a row that is no way."""
    if not is_way(way):
        raise BadWay("the row is no way")


def check_way_of(censers, way):
    """Refuse a row that is no way of so many censers."""
    check_way(way)
    if len(way) != censers:
        raise BadWay("the way is of another count of censers")


def check_two_ways(one, other):
    """Refuse two rows that are not ways of as many censers."""
    check_way(one)
    check_way_of(len(one), other)


def check_censer(censers, censer):
    """Refuse a number that none of so many censers has."""
    if not 0 <= censer < censers:
        raise NoCenser("no censer has this number")


def is_each_once(numbers):
    """Whether the list has each number from 0 up to one less than its length once."""
    return sorted(numbers) == list(range(len(numbers)))


def woods(way):
    """How many lots the way has."""
    check_way(way)
    return max(way) + 1


def alike(way, one, other):
    """Whether the two censers are alike in the way."""
    check_way(way)
    check_censer(len(way), one)
    check_censer(len(way), other)
    return way[one] == way[other]


def lots(way):
    """The lists of censers that are alike, each rising; list k has the censers whose number is k."""
    gathered = [[] for wood in range(woods(way))]
    for censer, wood in enumerate(way):
        gathered[wood].append(censer)
    return gathered


def way_by(lists):
    """The way whose lots are these lists of censers, in whatever order."""
    named = [censer for lot in lists for censer in lot]
    if any([len(lot) == 0 for lot in lists]) or not is_each_once(named):
        raise BadWay("the lists are not the lots of a way")
    places = {}
    for place, lot in enumerate(lists):
        for censer in lot:
            places[censer] = place
    # No lists at all, or more than nine censers, are refused by way_of.
    return way_of([places[censer] for censer in range(len(named))])


def way_of(numbers):
    """The way in which two censers are alike where their numbers in the list are the same."""
    if not 1 <= len(numbers) <= MOST_CENSERS:
        raise BadWay("a way has 1 to 9 censers")
    renamed = {}
    for given in numbers:
        if given not in renamed:
            renamed[given] = len(renamed)
    return tuple([renamed[given] for given in numbers])


def joined(one, other):
    """The way in which censers are alike that a row of censers links, each next one alike in one of the two ways."""
    check_two_ways(one, other)
    labels = list(one)
    for lot in lots(other):
        for censer in lot[1:]:
            labels = relabelled(labels, labels[censer], labels[lot[0]])
    return way_of(labels)


def relabelled(labels, old, new):
    """The labels, with the new one wherever the old one stands."""
    return [new if label == old else label for label in labels]


def met(one, other):
    """The way in which censers are alike that are alike in both ways."""
    check_two_ways(one, other)
    # The numbers of a way are below nine, so each pair of them makes a number of its own.
    return way_of([first * MOST_CENSERS + second for first, second in zip(one, other)])


def lies_within(one, other):
    """Whether all censers that are alike in the one way are alike in the other."""
    return met(one, other) == one


def turned(way, order):
    """The way in which censers k and m are alike where order[k] and order[m] are alike in the way handed in."""
    check_way(way)
    if len(order) != len(way) or not is_each_once(order):
        raise BadOrder("an order has the number of each censer once")
    return way_of([way[censer] for censer in order])
