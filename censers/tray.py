"""Trays: woods and how many packets of each there are."""

from censers.errors import BadTray, Empty, NoWood

MOST_WOODS = 6
MOST_PACKETS = 99
LONGEST_NAME = 12


def is_name(text):
    """Whether the text has 1 to 12 signs from a to z."""
    return 1 <= len(text) <= LONGEST_NAME and all(["a" <= sign <= "z" for sign in text])


def check_woods(woods):
    """Refuse pairs of which no tray can be made."""
    if not 1 <= len(woods) <= MOST_WOODS:
        raise BadTray("a tray has 1 to 6 woods")
    if len(set([name for name, packets in woods])) != len(woods):
        raise BadTray("no wood stands twice")
    for name, packets in woods:
        if not is_name(name):
            raise BadTray("a wood's name has 1 to 12 signs from a to z")
        if not 0 <= packets <= MOST_PACKETS:
            raise BadTray("there are 0 to 99 packets of a wood")


class Tray:
    """Woods and their packets, never changed."""

    def __init__(self, woods):
        check_woods(woods)
        self.stock = list(woods)

    def all_woods(self):
        """The pairs of name and packets, in the order handed in."""
        return list(self.stock)

    def packets(self, name):
        """How many packets of the wood there are."""
        for wood, count in self.stock:
            if wood == name:
                return count
        raise NoWood("the tray has no wood of this name")

    def total(self):
        """How many packets there are in all."""
        return sum([count for name, count in self.stock])

    def less(self, name):
        """Another tray with one packet fewer of the wood."""
        if self.packets(name) == 0:
            raise Empty("no packet of this wood is left")
        return Tray([(wood, count - 1 if wood == name else count) for wood, count in self.stock])
