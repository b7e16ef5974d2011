"""Chances: how likely woods and ways are when censers are filled from a tray."""

from censers.errors import BadMany, TooFew
from censers.ways import check_many, check_way, way_of


def fraction(part, whole):
    """The part of the whole, in lowest terms."""
    divisor, rest = whole, part
    while rest:
        divisor, rest = rest, divisor % rest
    return part // divisor, whole // divisor


def picks(packets, count):
    """In how many orders so many of the packets can be taken; 0 where there are fewer."""
    total = 1
    for taken in range(count):
        total *= packets - taken
    return total


def fillings(stocks, sizes):
    """In how many orders lots of these sizes can be filled, each from a wood of its own; stocks are their packets."""
    # By the sizes of the lots that are left: in how many orders the others are filled from the woods so far.
    orders = {tuple(sorted(sizes)): 1}
    for packets in stocks:
        further = dict(orders)
        for left, count in orders.items():
            for place, size in enumerate(left):
                fewer = left[:place] + left[place + 1:]
                further[fewer] = further.get(fewer, 0) + count * picks(packets, size)
        orders = further
    return orders.get((), 0)


def check_enough(tray, censers):
    """Refuse a tray with fewer packets than so many censers."""
    if tray.total() < censers:
        raise TooFew("there are fewer packets than censers to be filled")


def row_chance(tray, names):
    """The chance that as many censers are of just these woods, in this order."""
    stocks = [tray.packets(name) for name in names]
    check_many(len(names))
    check_enough(tray, len(names))
    orders = 1
    for place, name in enumerate(names):
        orders *= stocks[place] - names[:place].count(name)
    return fraction(orders, picks(tray.total(), len(names)))


def chance(tray, way):
    """The chance that the censers are alike and unlike as the way tells."""
    return chance_behind(tray, [], way)


def check_opening(tray, opened, censers):
    """Refuse woods that the tray has not, more of them than censers, and too few packets for the other censers."""
    for name in opened:
        tray.packets(name)
    if len(opened) > censers:
        raise BadMany("more are opened than there are censers")
    check_enough(tray, censers - len(opened))


def orders_behind(tray, opened, way):
    """In how many orders packets can be taken for the censers that are not opened, so that the way comes about."""
    shut = way[len(opened):]
    if opened and way_of(opened) != way[:len(opened)]:
        return 0
    woods_opened = [name for place, name in enumerate(opened) if name not in opened[:place]]
    orders = 1
    for wood, name in enumerate(woods_opened):
        orders *= picks(tray.packets(name), shut.count(wood))
    stocks = [packets for name, packets in tray.all_woods() if name not in woods_opened]
    sizes = [shut.count(wood) for wood in range(len(woods_opened), max(way) + 1)]
    return orders * fillings(stocks, sizes)


def chance_behind(tray, opened, way):
    """The chance of the way, where the first censers are known to be of the woods opened."""
    check_way(way)
    check_opening(tray, opened, len(way))
    return fraction(orders_behind(tray, opened, way), picks(tray.total(), len(way) - len(opened)))


def chance_of(tray, censers, count):
    """The chance that so many censers are of just so many woods in all."""
    check_many(censers)
    check_enough(tray, censers)
    # By how many woods are used and how many censers are left: in how many orders the others are filled.
    orders = {(0, censers): 1}
    for name, packets in tray.all_woods():
        further = dict(orders)
        for (used, left), so_far in orders.items():
            for size in range(1, left + 1):
                key = (used + 1, left - size)
                chosen = picks(left, size) // picks(size, size)
                further[key] = further.get(key, 0) + so_far * chosen * picks(packets, size)
        orders = further
    return fraction(orders.get((count, 0), 0), picks(tray.total(), censers))


def falling_sizes(censers, largest):
    """All lists of sizes of lots that so many censers may have, none larger than told, each list falling."""
    if censers == 0:
        return [[]]
    found = []
    for size in range(1, min(censers, largest) + 1):
        found = found + [[size] + others for others in falling_sizes(censers - size, size)]
    return found


def first_way(sizes):
    """The first way whose lots have these sizes, which fall."""
    return tuple([wood for wood, size in enumerate(sizes) for censer in range(size)])


def likeliest(tray, censers):
    """The way of so many censers with the greatest chance, of these the first one."""
    check_many(censers)
    check_enough(tray, censers)
    # A way's chance hangs on the sizes of its lots alone, so the first way of each choice of sizes will do.
    firsts = sorted([first_way(sizes) for sizes in falling_sizes(censers, censers)])
    return max(firsts, key=lambda way: orders_behind(tray, [], way))
