"""What is promised over the whole program: each refusal by its own class, and bad ways at each function."""

import unittest

from censers import errors
from censers.book import Book, read_book
from censers.cases import settled, shows
from censers.chances import chance, chance_behind, chance_of, likeliest, row_chance
from censers.council import agreement, council
from censers.fits import fit, fit_number
from censers.hopes import best, hope
from censers.marks import heights, lie, mark, read_mark
from censers.ranks import by_number, following, many, many_of, number
from censers.room import Room
from censers.sayings import Sayings
from censers.shifts import kept, moved, overlap
from censers.steps import joinings, partings, path, steps
from censers.tray import Tray
from censers.ways import alike, joined, lies_within, lots, met, turned, way_by, way_of, woods
from tests.helper import BAD_TWOS, BAD_WAYS, made

FULL = Tray([("oak", 99), ("elm", 50)])
BARE = Tray([("oak", 0)])


def in_round(censers, *said):
    """A room with a round of so many censers under way, in which a listener has said these."""
    room = Room(FULL)
    room.come("anna")
    room.begin(censers)
    for saying in said:
        room.say("anna", saying)
    return room


def lifted():
    room = in_round(2)
    room.lift("oak")
    return room


def crowded():
    room = Room(FULL)
    for name in "abcdefghi":
        room.come(name)
    return room


def in_book(*deeds):
    book = Book(FULL)
    for deed in deeds:
        book.do(deed)
    return book


def withdrawn():
    sayings = made(2, [("most", 1)])
    sayings.withdraw(0)
    return sayings


ONE_WAY = {
    "woods": woods,
    "lots": lots,
    "alike": lambda way: alike(way, 0, 0),
    "alike of no censer": lambda way: alike(way, -1, 40),
    "turned": lambda way: turned(way, list(range(len(way)))),
    "turned by no order": lambda way: turned(way, [0, 0, 7]),
    "number": number,
    "following": following,
    "lie": lambda way: lie(way, 0, 0),
    "lie of no lot": lambda way: lie(way, 50, -1),
    "heights": heights,
    "mark": mark,
    "joinings": joinings,
    "partings": partings,
    "chance": lambda way: chance(FULL, way),
    "chance of too few": lambda way: chance(BARE, way),
    "chance_behind": lambda way: chance_behind(FULL, ["oak"], way),
    "chance_behind no wood": lambda way: chance_behind(BARE, ["ash"] * 12, way),
    "fit_number": lambda way: fit_number(Sayings(3), way),
    "fit_number of nine": lambda way: fit_number(made(9, [("most", 1)]), way),
    "write": lambda way: in_round(3).write("anna", way),
    "write a misfit": lambda way: in_round(9, ("least", 9)).write("anna", way),
    "write in a book": lambda way: in_book(("come", "anna"), ("begin", 2)).do(("write", "anna", way)),
    "council alone": lambda way: council([way]),
    "council first": lambda way: council([way, (0, 0), (0, 1)]),
    "council last": lambda way: council([(0, 0), (0, 1), way]),
    "council twice": lambda way: council([way, way]),
}

TWO_WAYS = {
    "joined": joined,
    "met": met,
    "lies_within": lies_within,
    "steps": steps,
    "path": path,
    "overlap": overlap,
    "kept": kept,
    "moved": moved,
    "agreement": agreement,
    "council": lambda one, other: council([one, other]),
}

# For each refusal some calls that end with it.
REFUSALS = {
    "BadMany": (lambda: many(0), lambda: many_of(10, 1), lambda: by_number(0, 0), lambda: Sayings(10),
                lambda: row_chance(FULL, []), lambda: chance_of(FULL, 10, 1), lambda: likeliest(FULL, 0),
                lambda: chance_behind(FULL, ["oak"] * 2, (0,)), lambda: settled(0, []), lambda: shows(10, [], ("few",)),
                lambda: hope(FULL, ["oak"] * 2, Sayings(1)), lambda: best(FULL, ["oak"] * 2, Sayings(1)),
                lambda: Room(FULL).begin(10)),
    "BadWay": (lambda: way_by([]), lambda: way_of([]), lambda: council([]), lambda: woods((1,))),
    "NoCenser": (lambda: alike((0, 0), 0, 2), lambda: settled(2, [("alike", 0, 2)]), lambda: Sayings(2).chain(0, 2),
                 lambda: shows(2, [("alike", 0, 2)], ("few",)), lambda: Sayings(2).told(2, 0),
                 lambda: Sayings(2).why(2, 2), lambda: Sayings(2).say(("unlike", 2, 1)),
                 lambda: in_round(2).say("anna", ("alike", 0, 2))),
    "BadOrder": (lambda: turned((0, 0), [0]), lambda: turned((0, 0), [1, 1])),
    "BadNumber": (lambda: by_number(2, 2), lambda: fit(Sayings(2), 2), lambda: Room(FULL).gone_by(0)),
    "NoLot": (lambda: lie((0, 0), 0, 1), lambda: lie((0, 0), 1, 0)),
    "BadMark": (lambda: read_mark(""), lambda: read_mark("+-+\n| | ")),
    "BadTray": (lambda: Tray([]), lambda: Tray([("Oak", 1)])),
    "NoWood": (lambda: FULL.packets("ash"), lambda: FULL.less("ash"), lambda: row_chance(FULL, ["ash"]),
               lambda: chance_behind(FULL, ["ash"], (0,)), lambda: hope(FULL, ["ash"], Sayings(1)),
               lambda: best(FULL, ["ash"], Sayings(1)), lambda: in_round(1).lift("ash")),
    "Empty": (lambda: BARE.less("oak"), lambda: Tray([("oak", 1), ("elm", 0)]).less("elm")),
    "TooFew": (lambda: row_chance(BARE, ["oak"]), lambda: chance(BARE, (0,)), lambda: chance_of(BARE, 1, 1),
               lambda: likeliest(BARE, 1), lambda: chance_behind(BARE, [], (0,)), lambda: hope(BARE, [], Sayings(1)),
               lambda: best(BARE, [], Sayings(1)), lambda: Room(BARE).begin(1)),
    "BadSaying": (lambda: settled(2, [()]), lambda: shows(2, [("least", 3)], ("few",)),
                  lambda: Sayings(2).say(("alike", 0, 0)), lambda: in_round(2).say("anna", ("most", 0))),
    "Clash": (lambda: made(2, [("alike", 0, 1)]).say(("unlike", 0, 1)),
              lambda: in_round(2, ("alike", 0, 1)).say("anna", ("unlike", 0, 1))),
    "NoFit": (lambda: made(2, [("most", 1)]).say(("least", 2)),
              lambda: in_round(2, ("most", 1)).say("anna", ("unlike", 0, 1))),
    "NoSaying": (lambda: Sayings(2).withdraw(0), lambda: in_round(2).withdraw("anna", 0)),
    "Withdrawn": (lambda: withdrawn().withdraw(0),),
    "BadName": (lambda: Room(FULL).come(""), lambda: Book(FULL).do(("come", "A"))),
    "Taken": (lambda: in_round(2).come("anna"), lambda: crowded().come("a")),
    "Full": (lambda: crowded().come("j"),),
    "NoListener": (lambda: Room(FULL).leave("anna"), lambda: Room(FULL).points("anna"),
                   lambda: Room(FULL).hope("anna"), lambda: Room(FULL).best("anna")),
    "UnderWay": (lambda: in_round(2).begin(2),),
    "NoRound": (lambda: Room(FULL).stop(), lambda: Room(FULL).lift("oak"), lambda: Room(FULL).censers(),
                lambda: Room(FULL).opened(), lambda: crowded().sayings("a"), lambda: crowded().written("a")),
    "Opened": (lambda: lifted().say("anna", ("most", 1)), lambda: lifted().write("anna", (0, 0)),
               lambda: lifted().withdraw("anna", 0)),
    "Misfit": (lambda: in_round(2, ("alike", 0, 1)).write("anna", (0, 1)),),
    "BadDeed": (lambda: Book(FULL).do(()), lambda: Book(FULL).do(("stop", 1))),
    "Nothing": (lambda: Book(FULL).back(), lambda: Book(FULL).again()),
    "BadText": (lambda: read_book(""), lambda: read_book("tray oak 1\nstop")),
}


class Refusals(unittest.TestCase):
    def test_each_by_its_own_class(self):
        for name, calls in REFUSALS.items():
            for place, call in enumerate(calls):
                with self.subTest(name=name, place=place):
                    with self.assertRaises(ValueError) as caught:
                        call()
                    self.assertIs(type(caught.exception), getattr(errors, name))
                    self.assertIsInstance(caught.exception, errors.CenserError)

    def test_each_one_is_there(self):
        classes = [name for name, value in vars(errors).items() if isinstance(value, type)]
        self.assertEqual(sorted([*REFUSALS, "CenserError"]), sorted(classes))


class BadWays(unittest.TestCase):
    def refused(self, call, *ways):
        with self.assertRaises(errors.BadWay) as caught:
            call(*ways)
        self.assertIs(type(caught.exception), errors.BadWay)

    def test_one_way(self):
        for name, call in ONE_WAY.items():
            for way in BAD_WAYS:
                with self.subTest(name=name, way=way[:12]):
                    self.refused(call, way)

    def test_two_ways(self):
        for name, call in TWO_WAYS.items():
            for one, other in BAD_TWOS:
                with self.subTest(name=name):
                    self.refused(call, one, other)


if __name__ == "__main__":
    unittest.main()
