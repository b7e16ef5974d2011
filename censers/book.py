"""Books: rooms kept by deeds that can be taken back and done again, and their texts."""

from censers.errors import BadDeed, BadText, BadTray, CenserError, Nothing
from censers.room import Room
from censers.tray import Tray

# For each deed's first text, how many things its row has.
DEED_THINGS = {"come": 2, "leave": 2, "begin": 2, "say": 3, "withdraw": 3, "write": 3, "lift": 2, "stop": 1}

# How many texts stand first in its row of a book's text; numbers alone stand behind them.
DEED_TEXTS = {"come": 2, "leave": 2, "begin": 1, "say": 3, "withdraw": 2, "write": 2, "lift": 2, "stop": 1}


def check_deed(deed):
    """Refuse a row that is no deed."""
    if len(deed) == 0 or DEED_THINGS.get(deed[0]) != len(deed):
        raise BadDeed("the row is no deed")


def perform(room, deed):
    """Do the deed in the room; what the room gives."""
    word = deed[0]
    if word == "stop":
        return room.stop()
    first = deed[1]
    if word == "come":
        return room.come(first)
    if word == "leave":
        return room.leave(first)
    if word == "begin":
        return room.begin(first)
    if word == "lift":
        return room.lift(first)
    if word == "say":
        return room.say(first, deed[2])
    if word == "withdraw":
        return room.withdraw(first, deed[2])
    return room.write(first, deed[2])


def written_out(things):
    """A row of a book's text: the things one by one, those of a row within one by one too."""
    words = []
    for thing in things:
        if isinstance(thing, tuple):
            words.extend([str(part) for part in thing])
        else:
            words.append(str(thing))
    return " ".join(words)


class Book:
    """A room and the deeds that led to it, some of which may be taken back."""

    def __init__(self, tray):
        self.begun = tray
        # All deeds that are done or were taken back, and how many of them are done.
        self.entries = []
        self.done = 0
        # The room ahead of each deed, and behind the last one.
        self.stages = [Room(tray)]

    def do(self, deed):
        """Do the deed; what the room gives."""
        check_deed(deed)
        room = self.room()
        given = perform(room, deed)
        self.entries = self.deeds() + [deed]
        self.stages = self.stages[:self.done + 1] + [room]
        self.done += 1
        return given

    def back(self):
        """Take the last deed back; the deed."""
        if self.done == 0:
            raise Nothing("there is no deed to take back")
        self.done -= 1
        return self.entries[self.done]

    def again(self):
        """Do the deed again that was taken back last; the deed."""
        if self.done == len(self.entries):
            raise Nothing("there is no deed to do again")
        self.done += 1
        return self.entries[self.done - 1]

    def deeds(self):
        """The deeds that are done and not taken back."""
        return self.entries[:self.done]

    def room(self):
        """A room that stands as the book's one does, of which each goes its own way."""
        return self.stages[self.done].twin()

    def text(self):
        """The book's text."""
        first = ("tray",) + tuple(self.begun.all_woods())
        return "\n".join([written_out(row) for row in [first] + self.deeds()])


def is_number(word):
    """Whether the word is a number by figures, without a nought ahead of others."""
    if word == "" or not all(["0" <= sign <= "9" for sign in word]):
        return False
    return word == "0" or word[0] != "0"


def read_numbers(words):
    """The words as numbers."""
    if not all([is_number(word) for word in words]):
        raise BadDeed("a number is written by figures")
    return [int(word) for word in words]


def read_tray(row):
    """The tray that the first row of a text tells."""
    words = row.split(" ")
    names, packets = words[1::2], read_numbers(words[2::2])
    if words[0] != "tray" or len(names) != len(packets):
        raise BadTray("the row tells no tray")
    return Tray(list(zip(names, packets)))


def read_deed(row):
    """The deed that a row of a text tells; what is no deed is left for the book to refuse."""
    words = row.split(" ")
    texts = DEED_TEXTS.get(words[0], 1)
    things = words[:texts] + read_numbers(words[texts:])
    if words[0] in ("say", "write"):
        return tuple(things[:2]) + (tuple(things[2:]),)
    return tuple(things)


def read_book(text):
    """The book that has this text."""
    rows = text.split("\n")
    place = 0
    try:
        book = Book(read_tray(rows[0]))
        for row in rows[1:]:
            place += 1
            book.do(read_deed(row))
    except CenserError:
        raise BadText(place) from None
    return book
