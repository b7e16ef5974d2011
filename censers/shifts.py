"""Shifts: how many censers two ways keep in paired lots, with prices that show that no pairing keeps more."""

from censers.ways import check_two_ways, lots


def overlap(one, other):
    """For each lot of the one way, for each lot of the other, how many censers lie in both."""
    check_two_ways(one, other)
    return [[len([censer for censer in first if censer in second]) for second in lots(other)] for first in lots(one)]


class Pairing:
    """Rows of a table paired with its columns; no entry is greater than its row's and its column's price together."""

    def __init__(self, table):
        self.table = table
        self.row_prices = [max(row) for row in table]
        self.column_prices = [0] * len(table[0])
        self.holders = [None] * len(table[0])

    def place(self, row):
        """Pair the row; there are at least as many columns as rows, so one is left for it."""
        while True:
            reached = []
            if self.makes_room(row, reached):
                return
            # Prices are whole numbers and no entry in reach is just paid with a column beyond, so one less will do.
            for payer in [row] + [self.holders[column] for column in reached]:
                self.row_prices[payer] -= 1
            for column in reached:
                self.column_prices[column] += 1

    def makes_room(self, row, reached):
        """Pair the row by entries that are just paid, moving other rows on; True where that can be done."""
        for column, worth in enumerate(self.table[row]):
            if column in reached or self.row_prices[row] + self.column_prices[column] != worth:
                continue
            reached.append(column)
            holder = self.holders[column]
            if holder is None or self.makes_room(holder, reached):
                self.holders[column] = row
                return True
        return False


def kept(one, other):
    """The greatest sum of overlaps of paired lots, the pairs, and the prices of the one's and the other's lots."""
    table = overlap(one, other)
    columns = len(table[0])
    # Columns of noughts, so that each row finds one; their prices end as nought.
    spare = max(0, len(table) - columns)
    pairing = Pairing([row + [0] * spare for row in table])
    for row in range(len(table)):
        pairing.place(row)
    found = []
    for column, row in enumerate(pairing.holders[:columns]):
        if row is not None and table[row][column] > 0:
            found.append((row, column))
    total = sum([table[row][column] for row, column in found])
    return total, sorted(found), pairing.row_prices, pairing.column_prices[:columns]


def moved(one, other):
    """How many censers are not kept."""
    return len(one) - kept(one, other)[0]
