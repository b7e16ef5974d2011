"""Steps: joinings and partings, and the shortest way by them from one way to another."""

from censers.ways import joined, lots, relabelled, way_of, woods


def joinings(way):
    """All ways that come of this one by making two of its lots one, in their order."""
    pairs = [(first, second) for second in range(woods(way)) for first in range(second)]
    return sorted([way_of(relabelled(way, second, first)) for first, second in pairs])


def choices(censers):
    """All lists of some of the censers, none and all of them too."""
    found = [[]]
    for censer in censers:
        found = found + [chosen + [censer] for chosen in found]
    return found


def parted(way, chosen):
    """The way with the chosen censers as a lot of their own."""
    # No lot has the count of censers as its number.
    return way_of([len(way) if censer in chosen else wood for censer, wood in enumerate(way)])


def partings(way):
    """All ways that come of this one by making one of its lots two, in their order."""
    found = []
    for lot in lots(way):
        # The first censer always stays, so that each parting comes once.
        found = found + [parted(way, chosen) for chosen in choices(lot[1:]) if chosen]
    return sorted(found)


def steps(one, other):
    """The fewest joinings and partings that lead from the one way to the other."""
    # A parting with a joining behind it can give way to a joining with a parting behind it, or to nothing at all:
    # so a shortest path may have all its joinings first, and turns at the joined way.
    return woods(one) + woods(other) - 2 * woods(joined(one, other))


def climb(way, goal):
    """The ways from this one to one that it lies within, each next one a joining away."""
    rows = [way]
    labels = list(way)
    for censer, home in enumerate(goal):
        first = goal.index(home)
        if labels[censer] != labels[first]:
            labels = relabelled(labels, labels[censer], labels[first])
            rows.append(way_of(labels))
    return rows


def path(one, other):
    """The ways from the one to the other, both with them, by the fewest joinings and partings."""
    top = joined(one, other)
    back = climb(other, top)[:-1]
    return climb(one, top) + back[::-1]
