"""Rooms: listeners, and rounds of censers filled from a tray."""

from censers.chances import check_enough
from censers.council import agreement
from censers.errors import BadName, BadNumber, Full, Misfit, NoListener, NoRound, Opened, Taken, UnderWay
from censers.gist import suits
from censers.hopes import Prospect
from censers.sayings import Sayings
from censers.tray import is_name
from censers.ways import check_many, check_way_of, way_of

MOST_LISTENERS = 9


class Seat:
    """One listener's points, and the sayings and the written way of the round under way, else None."""

    def __init__(self, earned, notes, sheet):
        self.earned = earned
        self.notes = notes
        self.sheet = sheet

    def twin(self):
        """Another seat that stands alike, of which each goes its own way."""
        return Seat(self.earned, None if self.notes is None else self.notes.twin(), self.sheet)


class Room:
    """A tray, listeners who come and leave, the round under way, and the rounds gone by."""

    def __init__(self, tray):
        self.store = tray
        # By names; who came earlier stands first.
        self.seats = {}
        # The count of censers of the round under way, None where there is none, and the woods opened in it.
        self.ring_size = None
        self.lifted = []
        self.past = []

    def seat(self, name):
        """The listener's seat."""
        if name not in self.seats:
            raise NoListener("no listener has this name")
        return self.seats[name]

    def check_round(self):
        """Refuse where no round is under way."""
        if self.ring_size is None:
            raise NoRound("no round is under way")

    def seat_in_round(self, name):
        """The listener's seat in the round under way."""
        seat = self.seat(name)
        self.check_round()
        return seat

    def seat_ahead_of_lids(self, name):
        """The listener's seat in the round under way, of which no lid was lifted yet."""
        seat = self.seat_in_round(name)
        if self.lifted:
            raise Opened("a lid was lifted already")
        return seat

    def fresh_notes(self):
        """A listener's sayings as they are at first in the round under way, else None."""
        return None if self.ring_size is None else Sayings(self.ring_size)

    def set_round(self, size):
        """Let a round of so many censers be under way, or none; all sayings and what was written go."""
        self.ring_size = size
        self.lifted = []
        for seat in self.seats.values():
            seat.notes = self.fresh_notes()
            seat.sheet = None

    def come(self, name):
        """A listener comes by this name."""
        if not is_name(name):
            raise BadName("a name has 1 to 12 signs from a to z")
        if name in self.seats:
            raise Taken("a listener has this name already")
        if len(self.seats) == MOST_LISTENERS:
            raise Full("there are nine listeners already")
        self.seats[name] = Seat(0, self.fresh_notes(), None)

    def leave(self, name):
        """The listener of this name leaves."""
        self.seat(name)
        self.seats.pop(name)

    def begin(self, many):
        """A round begins with so many censers."""
        if self.ring_size is not None:
            raise UnderWay("a round is under way")
        check_many(many)
        check_enough(self.store, many)
        self.set_round(many)

    def say(self, name, saying):
        """The listener says the saying; its number."""
        seat = self.seat_ahead_of_lids(name)
        number = seat.notes.say(saying)
        if seat.sheet is not None and not suits(seat.sheet, saying):
            seat.sheet = None
        return number

    def withdraw(self, name, number):
        """The listener withdraws the saying of this number; the saying."""
        return self.seat_ahead_of_lids(name).notes.withdraw(number)

    def write(self, name, way):
        """The listener writes a way."""
        seat = self.seat_ahead_of_lids(name)
        check_way_of(self.ring_size, way)
        if not seat.notes.suited(way):
            raise Misfit("the way does not fit the listener's sayings")
        seat.sheet = way

    def lift(self, wood):
        """The next lid is lifted and shows this wood; with the last one pairs of name and points got, else None."""
        self.check_round()
        self.store = self.store.less(wood)
        self.lifted.append(wood)
        if len(self.lifted) < self.ring_size:
            return None
        got = self.paid_out(way_of(self.lifted))
        self.past.append((self.lifted, got))
        self.set_round(None)
        return list(got)

    def paid_out(self, way):
        """Give points for what was written, held against the way; pairs of name and points got."""
        got = []
        for name, seat in self.seats.items():
            if seat.sheet is not None:
                got.append((name, agreement(seat.sheet, way)))
                seat.earned += got[-1][1]
        return got

    def stop(self):
        """The round is stopped."""
        self.check_round()
        self.set_round(None)

    def tray(self):
        """The tray as it is now."""
        return self.store

    def listeners(self):
        """The listeners' names, who came earlier first."""
        return list(self.seats)

    def points(self, name):
        """The listener's points."""
        return self.seat(name).earned

    def standings(self):
        """Pairs of name and points, more points first, of the same who came earlier first."""
        return sorted([(name, seat.earned) for name, seat in self.seats.items()], key=lambda pair: -pair[1])

    def rounds(self):
        """How many rounds have gone by."""
        return len(self.past)

    def gone_by(self, number):
        """The woods opened in the round of this number, and the pairs told at its end."""
        if not 0 <= number < len(self.past):
            raise BadNumber("no round gone by has this number")
        woods, got = self.past[number]
        return list(woods), list(got)

    def under_way(self):
        """Whether a round is under way."""
        return self.ring_size is not None

    def censers(self):
        """The count of censers of the round under way."""
        self.check_round()
        return self.ring_size

    def opened(self):
        """The woods opened so far in the round under way."""
        self.check_round()
        return list(self.lifted)

    def sayings(self, name):
        """The listener's sayings, as a twin."""
        return self.seat_in_round(name).notes.twin()

    def written(self, name):
        """The way that the listener has written, or None."""
        return self.seat_in_round(name).sheet

    def prospect(self, name):
        """What the listener's sayings may hope for."""
        return Prospect(self.store, self.lifted, self.seat_in_round(name).notes)

    def hope(self, name):
        """The chance that the way fits the listener's sayings."""
        return self.prospect(name).chance_to_fit()

    def best(self, name):
        """The likeliest way that fits the listener's sayings."""
        return self.prospect(name).likeliest_fit()

    def twin(self):
        """Another room that stands alike, of which each goes its own way."""
        other = Room(self.store)
        other.seats = {name: seat.twin() for name, seat in self.seats.items()}
        other.ring_size = self.ring_size
        other.lifted = list(self.lifted)
        # The rounds gone by are never changed, so both rooms may hold the same ones.
        other.past = list(self.past)
        return other
