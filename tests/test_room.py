import itertools
import unittest

from censers import errors
from censers.errors import BadMany, BadName, BadNumber, BadSaying, BadWay, Clash, Empty, Full, Misfit, NoCenser, NoFit
from censers.errors import NoListener, NoRound, NoSaying, NoWood, Opened, Taken, TooFew, UnderWay, Withdrawn
from censers.hopes import best, hope
from censers.room import Room
from censers.sayings import Sayings
from censers.tray import Tray
from tests.helper import BAD_WAYS, FAR, bad_sayings, is_paper, outlook, outside_sayings, ways_of

WOODS = [("oak", 4), ("elm", 3), ("pine", 1), ("none", 0)]
BAD_NAMES = ("", "abcdefghijklm", "a" * 100, "Anna", "annA", "an na", " anna", "anna ", "an1", "0", "a-b", "a_b", "`",
             "{", "a\n", "a.b", "abcdefghijk~")
NAMES = ["anna", "bert", "cleo", "dora", "emil", "fritz", "gesa", "hans", "ida"]


def room_with(*names, censers=0, lifted=()):
    """A room with these listeners, and a round of so many censers under way, if any, with these lids lifted."""
    room = Room(Tray(WOODS))
    for name in names:
        room.come(name)
    if censers:
        room.begin(censers)
    for wood in lifted:
        room.lift(wood)
    return room


class RoomCase(unittest.TestCase):
    def refused(self, error, room, deed, *things):
        """The refusal; the room is not changed by it."""
        before = outlook(room)
        with self.assertRaises(errors.CenserError) as caught:
            getattr(room, deed)(*things)
        self.assertIs(type(caught.exception), error)
        self.assertEqual(outlook(room), before)
        return caught.exception


class Listeners(RoomCase):
    def test_a_new_room(self):
        room = Room(Tray(WOODS))
        self.assertEqual(outlook(room), [WOODS, [], [], False])
        self.assertEqual(room.rounds(), 0)
        self.assertIs(room.under_way(), False)

    def test_who_comes(self):
        room = room_with()
        self.assertIsNone(room.come("bert"))
        self.assertIsNone(room.come("anna"))
        self.assertEqual(room.listeners(), ["bert", "anna"])
        self.assertEqual((room.points("bert"), room.points("anna")), (0, 0))

    def test_names(self):
        room = room_with()
        for name in ("a", "z", "az", "abcdefghijkl", "mnopqrstuvwx", "zzzzzzzzzzzz"):
            room.come(name)
            self.assertIn(name, room.listeners())

    def test_bad_names(self):
        for room in (room_with(), room_with("anna"), room_with(*NAMES)):
            for name in BAD_NAMES:
                self.refused(BadName, room, "come", name)
            for place, sign in itertools.product(range(12), "A{` 0-\n"):
                self.refused(BadName, room, "come", "abcdefghijkl"[:place] + sign + "abcdefghijkl"[place + 1:])

    def test_a_name_that_is_there(self):
        room = room_with("anna", "bert")
        self.refused(Taken, room, "come", "anna")
        self.refused(Taken, room, "come", "bert")

    def test_the_ninth_and_the_tenth(self):
        room = room_with(*NAMES[:8])
        room.come(NAMES[8])
        self.assertEqual(room.listeners(), NAMES)
        self.refused(Full, room, "come", "jan")
        self.refused(Taken, room, "come", "ida")
        room.leave("bert")
        room.come("jan")
        self.assertEqual(room.listeners(), ["anna"] + NAMES[2:] + ["jan"])
        self.refused(Full, room, "come", "bert")

    def test_leaving(self):
        room = room_with("anna", "bert", "cleo")
        self.assertIsNone(room.leave("bert"))
        self.assertEqual(room.listeners(), ["anna", "cleo"])
        for name in ("bert", "dora", "") + BAD_NAMES:
            self.refused(NoListener, room, "leave", name)
            self.refused(NoListener, room, "points", name)

    def test_coming_anew(self):
        room = room_with("anna", "bert", censers=2)
        room.write("anna", (0, 0))
        room.write("bert", (0, 0))
        room.lift("oak")
        room.lift("oak")
        self.assertEqual(room.standings(), [("anna", 1), ("bert", 1)])
        room.leave("anna")
        room.come("anna")
        self.assertEqual(room.listeners(), ["bert", "anna"])
        self.assertEqual(room.points("anna"), 0)
        self.assertEqual(room.gone_by(0), (["oak", "oak"], [("anna", 1), ("bert", 1)]))

    def test_coming_anew_in_a_round(self):
        room = room_with("anna", censers=2)
        room.say("anna", ("alike", 0, 1))
        room.write("anna", (0, 0))
        room.leave("anna")
        room.come("anna")
        self.assertEqual((room.sayings("anna").said(), room.written("anna")), (0, None))
        self.assertEqual(room.say("anna", ("unlike", 0, 1)), 0)

    def test_coming_behind_the_first_lid(self):
        room = room_with("anna", censers=3, lifted=["oak"])
        room.come("bert")
        self.assertEqual((room.sayings("bert").standing(), room.sayings("bert").censers()), ([], 3))
        self.assertIsNone(room.written("bert"))
        self.refused(Opened, room, "write", "bert", (0, 0, 0))
        room.leave("anna")
        room.lift("oak")
        self.assertEqual(room.lift("oak"), [])


class Begin(RoomCase):
    def test_begun(self):
        for censers in range(1, 9):
            room = room_with("anna")
            self.assertIsNone(room.begin(censers))
            self.assertIs(room.under_way(), True)
            self.assertEqual((room.censers(), room.opened()), (censers, []))
            self.assertEqual((room.sayings("anna").censers(), room.written("anna")), (censers, None))

    def test_without_listeners(self):
        room = room_with(censers=1)
        self.assertEqual(room.lift("oak"), [])
        self.assertEqual(room.gone_by(0), (["oak"], []))

    def test_bad_counts(self):
        for tray in (Tray(WOODS), Tray([("oak", 0)])):
            for many in (0, -1, 10, 11) + FAR:
                self.refused(BadMany, Room(tray), "begin", many)

    def test_too_few(self):
        room = room_with("anna")
        self.refused(TooFew, room, "begin", 9)
        room.begin(8)
        room = Room(Tray([("oak", 99)]))
        room.begin(9)
        for packets in range(9):
            for many in range(packets + 1, 10):
                self.refused(TooFew, Room(Tray([("oak", packets), ("elm", 0)])), "begin", many)

    def test_under_way_goes_first(self):
        for room in (room_with(censers=8), room_with("anna", censers=2, lifted=["oak"])):
            for many in (1, 2, 9, 0, -1, 10) + FAR:
                self.refused(UnderWay, room, "begin", many)

    def test_too_few_behind_lids(self):
        room = room_with(censers=8, lifted=["oak", "elm"])
        room.stop()
        self.refused(TooFew, room, "begin", 7)
        self.refused(BadMany, room, "begin", 10)
        room.begin(6)


class Says(RoomCase):
    def test_each_listener_apart(self):
        room = room_with("anna", "bert", censers=3)
        self.assertEqual(room.say("anna", ("alike", 0, 1)), 0)
        self.assertEqual(room.say("bert", ("unlike", 0, 1)), 0)
        self.assertEqual(room.say("anna", ("least", 2)), 1)
        self.assertEqual(room.sayings("anna").standing(), [(0, ("alike", 0, 1)), (1, ("least", 2))])
        self.assertEqual(room.sayings("bert").standing(), [(0, ("unlike", 0, 1))])
        self.assertEqual(room.withdraw("anna", 0), ("alike", 0, 1))
        self.assertEqual(room.sayings("anna").standing(), [(1, ("least", 2))])
        self.assertEqual(room.sayings("bert").standing(), [(0, ("unlike", 0, 1))])
        self.assertEqual(room.say("anna", ("most", 2)), 2)

    def test_refused_as_the_sayings_refuse(self):
        room = room_with("anna", "bert", censers=4)
        room.say("anna", ("alike", 0, 1))
        room.say("anna", ("alike", 2, 1))
        room.say("anna", ("most", 1 + 1))
        room.withdraw("anna", 1)
        room.say("anna", ("alike", 2, 1))
        for bad in bad_sayings(4):
            self.refused(BadSaying, room, "say", "anna", bad)
        for bad in outside_sayings(4):
            self.refused(NoCenser, room, "say", "anna", bad)
        self.assertEqual(self.refused(Clash, room, "say", "anna", ("unlike", 0, 2)).ring, [0, 3])
        paper = self.refused(NoFit, room, "say", "anna", ("least", 3)).paper
        self.assertTrue(is_paper(4, [("alike", 0, 1), ("most", 2), ("alike", 2, 1), ("least", 3)], paper))
        self.refused(Withdrawn, room, "withdraw", "anna", 1)
        for number in (4, 5, -1) + FAR:
            self.refused(NoSaying, room, "withdraw", "anna", number)
        self.refused(NoSaying, room, "withdraw", "bert", 0)

    def test_no_listener_goes_first(self):
        for room in (room_with("anna"), room_with("anna", censers=2), room_with("anna", censers=2, lifted=["oak"])):
            for name in ("bert", "") + BAD_NAMES:
                for saying in (("alike", 0, 1), (), ("alike", 0, 9)):
                    self.refused(NoListener, room, "say", name, saying)
                for number in (0, 5):
                    self.refused(NoListener, room, "withdraw", name, number)
                for way in ((0, 1), (0,), (), (1, 0)):
                    self.refused(NoListener, room, "write", name, way)
                for question in ("sayings", "written", "hope", "best"):
                    self.refused(NoListener, room, question, name)

    def test_then_no_round(self):
        stopped, ended = room_with("anna", censers=2), room_with("anna", censers=1, lifted=["oak"])
        stopped.stop()
        for room in (room_with("anna"), stopped, ended):
            for saying in (("least", 1), ("alike", 0, 1), (), ("alike", 0, 9)):
                self.refused(NoRound, room, "say", "anna", saying)
            for number in (0, 5):
                self.refused(NoRound, room, "withdraw", "anna", number)
            for way in ((0, 1), (0,), (), (1, 0)):
                self.refused(NoRound, room, "write", "anna", way)
            for question in ("sayings", "written", "hope", "best"):
                self.refused(NoRound, room, question, "anna")
            for question in ("censers", "opened", "stop"):
                self.refused(NoRound, room, question)

    def test_then_opened(self):
        for lifted in (["oak"], ["oak", "elm"]):
            room = room_with("anna", censers=3)
            room.say("anna", ("alike", 0, 1))
            room.write("anna", (0, 0, 0))
            for wood in lifted:
                room.lift(wood)
            for saying in (("least", 1), ("unlike", 0, 1), (), ("alike", 0, 9)):
                self.refused(Opened, room, "say", "anna", saying)
            for number in (0, 5, -1):
                self.refused(Opened, room, "withdraw", "anna", number)
            for way in ((0, 0, 1), (0, 1, 0), (0,), (), (1, 0)):
                self.refused(Opened, room, "write", "anna", way)
            self.assertEqual(room.written("anna"), (0, 0, 0))
            self.assertEqual(room.sayings("anna").standing(), [(0, ("alike", 0, 1))])


class Writes(RoomCase):
    def test_written(self):
        room = room_with("anna", "bert", censers=3)
        self.assertIsNone(room.write("anna", (0, 1, 0)))
        self.assertEqual((room.written("anna"), room.written("bert")), ((0, 1, 0), None))
        room.write("anna", (0, 1, 2))
        self.assertEqual(room.written("anna"), (0, 1, 2))

    def test_bad_ways(self):
        room = room_with("anna", censers=3)
        room.say("anna", ("most", 1))
        room.write("anna", (0, 0, 0))
        for way in BAD_WAYS + ((0,), (0, 0), (0, 0, 0, 0), (0, 1), (0,) * 9):
            self.refused(BadWay, room, "write", "anna", way)
        self.assertEqual(room.written("anna"), (0, 0, 0))

    def test_misfit(self):
        room = room_with("anna", "bert", censers=3)
        room.say("anna", ("alike", 0, 1))
        room.say("anna", ("least", 2))
        for way in ways_of(3):
            if way == (0, 0, 1):
                room.write("anna", way)
            else:
                self.refused(Misfit, room, "write", "anna", way)
            room.write("bert", way)
        self.assertEqual((room.written("anna"), room.written("bert")), ((0, 0, 1), (0, 1, 2)))
        room.withdraw("anna", 1)
        room.write("anna", (0, 0, 0))

    def test_a_saying_takes_it_away_or_leaves_it(self):
        for saying, left in ((("alike", 0, 1), False), (("alike", 0, 2), True), (("unlike", 2, 0), False),
                             (("unlike", 1, 2), True), (("least", 2), True), (("least", 3), False),
                             (("most", 2), True), (("most", 1), False)):
            room = room_with("anna", "bert", censers=3)
            room.write("anna", (0, 1, 0))
            room.write("bert", (0, 1, 0))
            room.say("anna", saying)
            self.assertEqual(room.written("anna"), (0, 1, 0) if left else None, saying)
            self.assertEqual(room.written("bert"), (0, 1, 0))

    def test_a_refused_saying_leaves_it(self):
        room = room_with("anna", censers=3)
        room.say("anna", ("unlike", 0, 1))
        room.write("anna", (0, 1, 0))
        for error, saying in ((Clash, ("alike", 0, 1)), (NoFit, ("most", 1)), (BadSaying, ("least", 4)),
                              (NoCenser, ("alike", 0, 3))):
            self.refused(error, room, "say", "anna", saying)
            self.assertEqual(room.written("anna"), (0, 1, 0))

    def test_a_withdrawal_leaves_it(self):
        room = room_with("anna", censers=3)
        room.say("anna", ("unlike", 0, 1))
        room.write("anna", (0, 1, 0))
        room.withdraw("anna", 0)
        self.assertEqual(room.written("anna"), (0, 1, 0))

    def test_what_was_taken_away_does_not_come_back(self):
        room = room_with("anna", censers=2)
        room.write("anna", (0, 1))
        room.say("anna", ("alike", 0, 1))
        room.withdraw("anna", 0)
        self.assertIsNone(room.written("anna"))


class Lifts(RoomCase):
    def test_to_the_last_lid(self):
        room = room_with("bert", "anna", "cleo", "dora", censers=3)
        room.write("anna", (0, 0, 1))
        room.write("bert", (0, 1, 2))
        room.write("dora", (0, 1, 1))
        self.assertIsNone(room.lift("oak"))
        self.assertEqual((room.opened(), room.tray().packets("oak")), (["oak"], 3))
        self.assertIsNone(room.lift("oak"))
        self.assertEqual(room.opened(), ["oak", "oak"])
        self.assertEqual(room.lift("elm"), [("bert", 2), ("anna", 3), ("dora", 1)])
        self.assertEqual(room.tray().all_woods(), [("oak", 2), ("elm", 2), ("pine", 1), ("none", 0)])
        self.assertEqual(room.standings(), [("anna", 3), ("bert", 2), ("dora", 1), ("cleo", 0)])
        self.assertEqual((room.rounds(), room.under_way()), (1, False))
        self.assertEqual(room.gone_by(0), (["oak", "oak", "elm"], [("bert", 2), ("anna", 3), ("dora", 1)]))

    def test_nought_too(self):
        room = room_with("anna", "bert", censers=2)
        room.write("anna", (0, 0))
        room.lift("elm")
        self.assertEqual(room.lift("oak"), [("anna", 0)])
        self.assertEqual(room.gone_by(0), (["elm", "oak"], [("anna", 0)]))
        room.begin(1)
        room.write("bert", (0,))
        self.assertEqual(room.lift("pine"), [("bert", 0)])

    def test_points_add_up(self):
        room = room_with("anna", "bert")
        for turn, (woods, got) in enumerate(((["oak", "oak"], 1), (["elm", "oak"], 0), (["elm", "elm"], 1))):
            room.begin(2)
            room.write("anna", (0, 0))
            room.lift(woods[0])
            self.assertEqual(room.lift(woods[1]), [("anna", got)])
            self.assertEqual(room.rounds(), turn + 1)
        self.assertEqual((room.points("anna"), room.points("bert")), (2, 0))
        self.assertEqual(room.gone_by(1), (["elm", "oak"], [("anna", 0)]))

    def test_nine_censers(self):
        room = Room(Tray([("oak", 20), ("elm", 20), ("pine", 20)]))
        room.come("anna")
        room.begin(9)
        room.write("anna", (0, 1, 2) * 3)
        for wood in ("oak", "elm", "pine") * 2 + ("oak", "elm"):
            self.assertIsNone(room.lift(wood))
        self.assertEqual(room.twin().lift("pine"), [("anna", 36)])
        self.assertEqual(room.lift("oak"), [("anna", 36 - 5)])

    def test_the_last_packet(self):
        room = Room(Tray([("oak", 1), ("elm", 1)]))
        room.begin(2)
        room.lift("elm")
        self.assertEqual(room.lift("oak"), [])
        self.assertEqual(room.tray().total(), 0)
        self.refused(TooFew, room, "begin", 1)

    def test_refusals_in_their_order(self):
        for wood in ("oak", "ash", "none", ""):
            self.refused(NoRound, room_with("anna"), "lift", wood)
        for lifted in ([], ["oak"], ["pine"]):
            room = room_with("anna", censers=3, lifted=lifted)
            for wood in ("ash", "oaks", "", "anna"):
                self.refused(NoWood, room, "lift", wood)
            self.refused(Empty, room, "lift", "none")
        self.refused(Empty, room, "lift", "pine")
        ended = room_with("anna", censers=1, lifted=["oak"])
        self.refused(NoRound, ended, "lift", "oak")

    def test_all_goes_with_the_round(self):
        for stopped in (False, True):
            room = room_with("anna", "bert", censers=2)
            room.say("anna", ("alike", 0, 1))
            room.say("anna", ("most", 1))
            room.withdraw("anna", 1)
            room.write("anna", (0, 0))
            if stopped:
                self.assertIsNone(room.stop())
            else:
                room.lift("oak")
                room.lift("oak")
            self.assertIs(room.under_way(), False)
            room.begin(3)
            self.assertEqual((room.opened(), room.censers()), ([], 3))
            self.assertEqual((room.sayings("anna").said(), room.sayings("anna").standing()), (0, []))
            self.assertEqual((room.sayings("anna").censers(), room.written("anna")), (3, None))
            self.assertEqual(room.say("anna", ("unlike", 0, 1)), 0)


class Stops(RoomCase):
    def test_a_stopped_round(self):
        room = room_with("anna", censers=3)
        room.write("anna", (0, 0, 0))
        room.lift("oak")
        room.lift("elm")
        self.assertIsNone(room.stop())
        self.assertEqual((room.rounds(), room.points("anna"), room.under_way()), (0, 0, False))
        self.assertEqual(room.tray().all_woods(), [("oak", 3), ("elm", 2), ("pine", 1), ("none", 0)])
        self.refused(NoRound, room, "stop")
        self.refused(BadNumber, room, "gone_by", 0)

    def test_behind_a_round_gone_by(self):
        room = room_with("anna", censers=1, lifted=["oak"])
        room.begin(2)
        room.stop()
        self.assertEqual((room.rounds(), room.gone_by(0)), (1, (["oak"], [])))

    def test_no_round(self):
        self.refused(NoRound, room_with("anna"), "stop")


class Questions(RoomCase):
    def played(self):
        """A room with three rounds gone by."""
        room = room_with("anna", "bert", "cleo")
        for way, woods in (((0, 0), ["oak", "oak"]), ((0, 1), ["oak", "elm"]), ((0, 1), ["elm", "pine"])):
            room.begin(2)
            room.write("bert", way)
            room.write("cleo", (0, 1))
            for wood in woods:
                room.lift(wood)
        return room

    def test_standings_with_even_points(self):
        room = self.played()
        self.assertEqual(room.standings(), [("bert", 3), ("cleo", 2), ("anna", 0)])
        room.come("dora")
        self.assertEqual(room.standings(), [("bert", 3), ("cleo", 2), ("anna", 0), ("dora", 0)])
        room = room_with("dora", "cleo", "bert", "anna", censers=2)
        for name in ("anna", "cleo"):
            room.write(name, (0, 0))
        room.lift("oak")
        room.lift("oak")
        self.assertEqual(room.standings(), [("cleo", 1), ("anna", 1), ("dora", 0), ("bert", 0)])
        self.assertEqual(room.listeners(), ["dora", "cleo", "bert", "anna"])

    def test_rounds_gone_by(self):
        room = self.played()
        self.assertEqual(room.rounds(), 3)
        self.assertEqual(room.gone_by(0), (["oak", "oak"], [("bert", 1), ("cleo", 0)]))
        self.assertEqual(room.gone_by(2), (["elm", "pine"], [("bert", 1), ("cleo", 1)]))
        self.assertIsInstance(room.gone_by(1), tuple)
        for number in (-1, -2, -3, 3, 4) + FAR:
            self.refused(BadNumber, room, "gone_by", number)

    def test_told_lists_may_be_changed(self):
        room = self.played()
        room.begin(2)
        room.lift("oak")
        before = outlook(room)
        for told in (room.listeners(), room.standings(), room.opened(), *room.gone_by(0), *room.gone_by(2)):
            told.append("more")
            told.reverse()
            del told[1:]
        self.assertEqual(outlook(room), before)
        room.lift("elm").append("more")
        self.assertEqual(room.gone_by(3), (["oak", "elm"], []))

    def test_pairs_told_at_the_end_may_be_changed(self):
        room = room_with("anna", censers=1)
        room.write("anna", (0,))
        told = room.lift("oak")
        told.append(("bert", 7))
        self.assertEqual(room.gone_by(0), (["oak"], [("anna", 0)]))

    def test_sayings_go_their_own_way(self):
        room = room_with("anna", censers=3)
        room.say("anna", ("alike", 0, 1))
        apart = room.sayings("anna")
        self.assertIsInstance(apart, Sayings)
        apart.withdraw(0)
        apart.say(("unlike", 0, 1))
        self.assertEqual(room.sayings("anna").standing(), [(0, ("alike", 0, 1))])
        room.say("anna", ("least", 2))
        self.assertEqual(apart.standing(), [(1, ("unlike", 0, 1))])

    def test_hope_and_best(self):
        room = room_with("anna", "bert", censers=3)
        room.say("anna", ("alike", 0, 1))
        self.check_hopes(room)
        for wood in ("elm", "oak"):
            room.lift(wood)
            self.check_hopes(room)
        self.assertEqual((room.hope("anna"), room.best("anna")), ((0, 1), (0, 0, 0)))
        self.assertEqual((room.hope("bert"), room.best("bert")), ((1, 1), (0, 1, 1)))

    def check_hopes(self, room):
        for name in room.listeners():
            things = (room.tray(), room.opened(), room.sayings(name))
            self.assertEqual((room.hope(name), room.best(name)), (hope(*things), best(*things)))

    def test_hope_of_a_fresh_round(self):
        room = room_with("anna", censers=2)
        room.say("anna", ("alike", 0, 1))
        self.assertEqual((room.hope("anna"), room.best("anna")), ((9, 28), (0, 0)))
        room.lift("pine")
        self.assertEqual((room.hope("anna"), room.best("anna")), ((0, 1), (0, 0)))

    def test_points_behind_a_leaving(self):
        room = self.played()
        room.leave("bert")
        self.refused(NoListener, room, "points", "bert")
        self.assertEqual(room.standings(), [("cleo", 2), ("anna", 0)])
        self.assertEqual(room.gone_by(0), (["oak", "oak"], [("bert", 1), ("cleo", 0)]))

    def test_the_tray_handed_in_stays(self):
        tray = Tray(WOODS)
        room = Room(tray)
        room.begin(1)
        room.lift("oak")
        self.assertEqual(tray.all_woods(), WOODS)
        self.assertIsInstance(room.tray(), Tray)


class Twins(RoomCase):
    def test_each_goes_its_own_way(self):
        for turned in (False, True):
            room = room_with("anna", "bert", censers=2)
            room.write("bert", (0, 0))
            room.lift("oak")
            room.lift("oak")
            room.begin(3)
            room.say("anna", ("unlike", 0, 1))
            room.say("bert", ("most", 2))
            room.write("bert", (0, 1, 0))
            room.lift("elm")
            twin = room.twin()
            self.assertIsInstance(twin, Room)
            before = outlook(room)
            self.assertEqual(outlook(twin), before)
            first, second = (twin, room) if turned else (room, twin)
            first.lift("elm")
            first.lift("elm")
            self.assertEqual(outlook(second), before)
            first.leave("anna")
            first.come("cleo")
            first.begin(2)
            first.say("bert", ("alike", 0, 1))
            first.write("bert", (0, 0))
            self.assertEqual(outlook(second), before)
            after = outlook(first)
            second.stop()
            second.begin(1)
            second.say("anna", ("most", 1))
            second.leave("bert")
            self.assertEqual(outlook(first), after)

    def test_ahead_of_the_lids(self):
        room = room_with("anna", censers=2)
        room.say("anna", ("alike", 0, 1))
        room.write("anna", (0, 0))
        twin = room.twin()
        self.assertEqual(twin.say("anna", ("most", 1)), 1)
        twin.withdraw("anna", 0)
        self.assertEqual(room.sayings("anna").standing(), [(0, ("alike", 0, 1))])
        self.assertEqual(room.withdraw("anna", 0), ("alike", 0, 1))
        room.write("anna", (0, 1))
        self.assertEqual((twin.written("anna"), room.written("anna")), ((0, 0), (0, 1)))


if __name__ == "__main__":
    unittest.main()
