import itertools
import re
import unittest

from censers import errors
from censers.book import Book, read_book
from censers.errors import BadDeed, BadMany, BadName, BadSaying, BadText, BadWay, Clash, Empty, Full, Misfit, NoCenser
from censers.errors import NoFit, NoListener, NoRound, NoSaying, NoWood, Nothing, Opened, Taken, TooFew, UnderWay
from censers.errors import Withdrawn
from censers.room import Room
from censers.tray import Tray
from tests.helper import is_paper, outlook

WOODS = [("oak", 4), ("elm", 3), ("none", 0)]

# Each deed with what the room gives for it.
PLAYED = (
    (("come", "anna"), None),
    (("come", "bert"), None),
    (("come", "cleo"), None),
    (("begin", 3), None),
    (("say", "anna", ("alike", 0, 1)), 0),
    (("say", "anna", ("unlike", 2, 1)), 1),
    (("say", "bert", ("least", 2)), 0),
    (("say", "bert", ("most", 2)), 1),
    (("withdraw", "bert", 0), ("least", 2)),
    (("write", "anna", (0, 0, 1)), None),
    (("write", "bert", (0, 0, 0)), None),
    (("leave", "cleo"), None),
    (("lift", "oak"), None),
    (("lift", "oak"), None),
    (("lift", "elm"), [("anna", 3), ("bert", 1)]),
    (("begin", 4), None),
    (("lift", "elm"), None),
    (("stop",), None),
    (("begin", 1), None),
)

TEXT = """tray oak 4 elm 3 none 0
come anna
come bert
come cleo
begin 3
say anna alike 0 1
say anna unlike 2 1
say bert least 2
say bert most 2
withdraw bert 0
write anna 0 0 1
write bert 0 0 0
leave cleo
lift oak
lift oak
lift elm
begin 4
lift elm
stop
begin 1"""


NUMBER = "(?:0|[1-9][0-9]*)"
FORMS = (
    "(come) ([a-z]+)",
    "(leave) ([a-z]+)",
    f"(begin) ({NUMBER})",
    f"(say) ([a-z]+) ((?:alike|unlike) {NUMBER} {NUMBER}|(?:least|most) {NUMBER})",
    f"(withdraw) ([a-z]+) ({NUMBER})",
    f"(write) ([a-z]+) ({NUMBER}(?: {NUMBER})*)",
    "(lift) ([a-z]+)",
    "(stop)",
)


def thing_of(deed, words):
    """A thing of a deed, of the words that tell it."""
    parts = tuple(int(word) if word.isdigit() else word for word in words.split(" "))
    return parts if deed in ("say", "write") and words[-1:].isdigit() else parts[0]


def first_wrong(text):
    """The first row of the text that is wrong, found with a room and by the forms of the rows; None if none is."""
    rows = text.split("\n")
    woods = re.findall(f" ([a-z]{{1,12}}) ({NUMBER})(?= |$)", rows[0])
    good = rows[0] == "tray" + "".join(f" {name} {packets}" for name, packets in woods)
    if not good or not 1 <= len(dict(woods)) == len(woods) <= 6 or max(int(packets) for name, packets in woods) > 99:
        return 0
    room = Room(Tray([(name, int(packets)) for name, packets in woods]))
    for place, row in enumerate(rows[1:], start=1):
        found = [match for match in (re.fullmatch(form, row) for form in FORMS) if match]
        if not found:
            return place
        deed, *things = found[0].groups()
        try:
            getattr(room, deed)(*[thing_of(deed, words) for words in things])
        except errors.CenserError:
            return place
    return None


def book_of(*deeds):
    """A book in which these deeds are done."""
    book = Book(Tray(WOODS))
    for deed in deeds:
        book.do(deed)
    return book


def played():
    return book_of(*[deed for deed, given in PLAYED])


def look(book):
    """All that the book tells of itself."""
    return book.text(), book.deeds(), outlook(book.room())


class BookCase(unittest.TestCase):
    def refused(self, error, book, deed):
        """The refusal; the book is not changed by it."""
        before = look(book)
        with self.assertRaises(errors.CenserError) as caught:
            book.do(deed)
        self.assertIs(type(caught.exception), error)
        self.assertEqual(look(book), before)
        return caught.exception


class Deeds(BookCase):
    def test_a_new_book(self):
        book = book_of()
        self.assertEqual((book.deeds(), book.text()), ([], "tray oak 4 elm 3 none 0"))
        self.assertEqual(outlook(book.room()), outlook(Room(Tray(WOODS))))

    def test_each_deed_gives_what_the_room_gives(self):
        book, room = book_of(), Room(Tray(WOODS))
        for place, (deed, given) in enumerate(PLAYED):
            self.assertEqual(book.do(deed), given)
            self.assertEqual(getattr(room, deed[0])(*deed[1:]), given)
            self.assertEqual(outlook(book.room()), outlook(room))
            self.assertEqual(book.deeds(), [done for done, told in PLAYED[:place + 1]])

    def test_bad_deeds(self):
        things = ("anna", 0, (0, 0, 1), ("alike", 0, 1))
        right = {"come": 1, "leave": 1, "begin": 1, "say": 2, "withdraw": 2, "write": 2, "lift": 1, "stop": 0}
        for book in (book_of(), played()):
            self.refused(BadDeed, book, ())
            for word, count in right.items():
                for length in range(5):
                    if length != count:
                        for behind in itertools.islice(itertools.product(things, repeat=length), 30):
                            self.refused(BadDeed, book, (word,) + behind)
            for word in ("", "Come", "came", "back", "again", "tray", "room", "stop ", "lift oak"):
                for length in range(4):
                    self.refused(BadDeed, book, (word,) + ("anna", 0, 1)[:length])

    def test_refused_as_the_room_refuses(self):
        book = book_of(("come", "anna"), ("come", "bert"))
        self.refused(BadName, book, ("come", "Anna"))
        self.refused(Taken, book, ("come", "anna"))
        self.refused(NoListener, book, ("leave", "cleo"))
        self.refused(NoRound, book, ("say", "anna", ("alike", 0, 1)))
        self.refused(NoRound, book, ("lift", "oak"))
        self.refused(NoRound, book, ("stop",))
        self.refused(BadMany, book, ("begin", 10))
        self.refused(TooFew, book, ("begin", 8))
        book.do(("begin", 4))
        self.refused(UnderWay, book, ("begin", 4))
        self.refused(BadSaying, book, ("say", "anna", ()))
        self.refused(NoCenser, book, ("say", "anna", ("alike", 0, 4)))
        self.refused(NoSaying, book, ("withdraw", "anna", 0))
        book.do(("say", "anna", ("alike", 0, 1)))
        book.do(("say", "anna", ("alike", 1, 2)))
        book.do(("say", "anna", ("alike", 0, 1)))
        book.do(("withdraw", "anna", 0))
        self.refused(Withdrawn, book, ("withdraw", "anna", 0))
        self.assertEqual(self.refused(Clash, book, ("say", "anna", ("unlike", 0, 2))).ring, [2, 1])
        paper = self.refused(NoFit, book, ("say", "anna", ("least", 3))).paper
        self.assertTrue(is_paper(4, [("alike", 1, 2), ("alike", 0, 1), ("least", 3)], paper))
        self.refused(BadWay, book, ("write", "anna", (0, 0, 0)))
        self.refused(BadWay, book, ("write", "anna", (0, 0, 0, 2)))
        self.refused(Misfit, book, ("write", "anna", (0, 0, 1, 1)))
        self.refused(NoWood, book, ("lift", "ash"))
        self.refused(Empty, book, ("lift", "none"))
        book.do(("lift", "elm"))
        self.refused(Opened, book, ("write", "anna", (0, 0, 0, 0)))
        for name in "cdefghi":
            book.do(("come", name))
        self.refused(Full, book, ("come", "z"))

    def test_deeds_and_room_are_the_caller_s_own(self):
        book = played()
        before = look(book)
        book.deeds().clear()
        book.deeds().append(("stop",))
        room = book.room()
        room.lift("oak")
        room.leave("anna")
        self.assertIsInstance(room, Room)
        self.assertEqual(look(book), before)
        room = book.room()
        book.do(("leave", "anna"))
        self.assertEqual(outlook(room), before[2])

    def test_lists_given_may_be_changed(self):
        book = book_of(("come", "anna"), ("begin", 1), ("write", "anna", (0,)))
        given = book.do(("lift", "oak"))
        given.append(("bert", 5))
        self.assertEqual(book.room().gone_by(0), (["oak"], [("anna", 0)]))
        book.room().gone_by(0)[1].clear()
        self.assertEqual(book.room().gone_by(0), (["oak"], [("anna", 0)]))


class Back(BookCase):
    def nothing(self, ask, book):
        before = look(book)
        with self.assertRaises(Nothing):
            ask()
        self.assertEqual(look(book), before)

    def test_to_both_ends(self):
        book = played()
        stages = [look(book_of(*[deed for deed, given in PLAYED[:length]])) for length in range(len(PLAYED) + 1)]
        for turn in range(2):
            self.nothing(book.again, book)
            for length in reversed(range(len(PLAYED))):
                self.assertEqual(book.back(), PLAYED[length][0])
                self.assertEqual(look(book), stages[length])
            self.nothing(book.back, book)
            for length in range(len(PLAYED)):
                self.assertEqual(book.again(), PLAYED[length][0])
                self.assertEqual(look(book), stages[length + 1])

    def test_nothing_in_a_new_book(self):
        book = book_of()
        self.nothing(book.back, book)
        self.nothing(book.again, book)

    def test_back_and_again_in_between(self):
        book = book_of(("come", "anna"), ("come", "bert"), ("begin", 2))
        book.back()
        book.back()
        self.assertEqual(book.again(), ("come", "bert"))
        self.assertEqual(book.back(), ("come", "bert"))
        self.assertEqual(book.back(), ("come", "anna"))
        self.assertEqual([book.again(), book.again(), book.again()], [("come", "anna"), ("come", "bert"), ("begin", 2)])
        self.nothing(book.again, book)

    def test_a_deed_done_behind_lets_go(self):
        book = book_of(("come", "anna"), ("come", "bert"), ("begin", 2))
        book.back()
        book.back()
        book.do(("come", "cleo"))
        self.nothing(book.again, book)
        self.assertEqual(book.deeds(), [("come", "anna"), ("come", "cleo")])
        self.assertEqual(book.room().listeners(), ["anna", "cleo"])
        self.assertEqual([book.back(), book.back()], [("come", "cleo"), ("come", "anna")])
        self.nothing(book.back, book)

    def test_the_same_deed_done_anew_lets_go_too(self):
        book = book_of(("come", "anna"), ("come", "bert"), ("begin", 2))
        book.back()
        book.back()
        book.do(("come", "bert"))
        self.nothing(book.again, book)

    def test_a_refused_one_lets_go_nothing(self):
        book = book_of(("come", "anna"), ("come", "bert"), ("begin", 2))
        book.back()
        book.back()
        self.refused(Taken, book, ("come", "anna"))
        self.refused(BadDeed, book, ("come",))
        self.refused(BadDeed, book, ())
        self.assertEqual([book.again(), book.again()], [("come", "bert"), ("begin", 2)])
        self.nothing(book.again, book)

    def test_what_was_taken_back_is_not_in_the_text(self):
        book = played()
        for turn in range(15):
            book.back()
        self.assertEqual(book.text(), "tray oak 4 elm 3 none 0\ncome anna\ncome bert\ncome cleo\nbegin 3")
        book.again()
        self.assertEqual(book.text().split("\n")[-1], "say anna alike 0 1")

    def test_sayings_behind_a_taking_back(self):
        book = book_of(("come", "anna"), ("begin", 3), ("say", "anna", ("alike", 0, 1)), ("write", "anna", (0, 0, 1)))
        book.do(("say", "anna", ("least", 3 - 1)))
        self.assertEqual(book.do(("say", "anna", ("unlike", 1, 2))), 2)
        book.back()
        book.back()
        self.assertEqual(book.do(("say", "anna", ("most", 1))), 1)
        self.assertIsNone(book.room().written("anna"))
        book.back()
        self.assertEqual(book.room().written("anna"), (0, 0, 1))


class Texts(BookCase):
    def test_text(self):
        self.assertEqual(played().text(), TEXT)
        self.assertEqual(Book(Tray([("a", 0)])).text(), "tray a 0")

    def test_the_tray_at_the_beginning(self):
        book = book_of(("begin", 1), ("lift", "oak"))
        self.assertEqual(book.text(), "tray oak 4 elm 3 none 0\nbegin 1\nlift oak")

    def test_nine_censers(self):
        book = Book(Tray([("oak", 99), ("elm", 10)]))
        for deed in (("come", "anna"), ("begin", 9), ("write", "anna", (0, 1, 2, 3, 4, 5, 6, 7, 8)),
                     ("write", "anna", (0,) * 9)):
            book.do(deed)
        self.assertEqual(book.text(), "tray oak 99 elm 10\ncome anna\nbegin 9\nwrite anna 0 1 2 3 4 5 6 7 8\n"
                                      "write anna 0 0 0 0 0 0 0 0 0")
        self.same(book)

    def test_long_numbers(self):
        book = Book(Tray([("oak", 9)]))
        book.do(("come", "anna"))
        book.do(("begin", 2))
        for number in range(12):
            self.assertEqual(book.do(("say", "anna", ("alike", 0, 1))), number)
        book.do(("withdraw", "anna", 10))
        self.assertEqual(book.text().split("\n")[-1], "withdraw anna 10")
        self.same(book)

    def same(self, book):
        """The text of the book is read to one that tells the same, with nothing to do again."""
        told = read_book(book.text())
        self.assertIsInstance(told, Book)
        self.assertEqual(look(told), look(book))
        with self.assertRaises(Nothing):
            told.again()
        return told

    def test_read_back(self):
        book = played()
        self.same(book)
        for turn in range(len(PLAYED)):
            book.back()
            told = self.same(book)
        with self.assertRaises(Nothing):
            told.back()

    def test_a_book_that_was_read_goes_on(self):
        book = self.same(played())
        self.assertEqual(book.back(), ("begin", 1))
        book.do(("begin", 2))
        self.assertEqual(book.do(("say", "anna", ("alike", 1, 0))), 0)
        for length in range(20):
            book.back()
        self.assertEqual(book.text(), TEXT.split("\n")[0])

    def test_names_like_words(self):
        book = Book(Tray([("tray", 3), ("stop", 2)]))
        for deed in (("come", "come"), ("come", "say"), ("begin", 2), ("say", "say", ("alike", 0, 1)),
                     ("lift", "tray")):
            book.do(deed)
        self.same(book)


class Spoilt(BookCase):
    def wrong(self, text, row):
        with self.assertRaises(BadText) as caught:
            read_book(text)
        self.assertEqual(caught.exception.row, row, text)

    def told(self, text):
        """The row of the refusal, or None where the text is that of a book; then it is just that text."""
        try:
            book = read_book(text)
        except BadText as refusal:
            self.assertEqual(refusal.row, first_wrong(text), text)
            return refusal.row
        self.assertEqual(book.text(), text)
        self.assertIsNone(first_wrong(text))
        return None

    def test_no_signs_at_all(self):
        self.wrong("", 0)
        self.wrong("\n", 0)
        self.wrong(" ", 0)

    def test_first_rows(self):
        for row in ("tray", "tray ", "tray oak", "tray oak 3 elm", "tray 3 oak", "tray oak three", "Tray oak 3",
                    "tray  oak 3", "tray oak  3", "tray oak 3 ", "tray oak 03", "tray oak 00", "tray oak +3",
                    "tray oak -3", "tray oak 100", "tray oak 3 oak 3", "tray Oak 3", "tray oak 3 elm 2 3",
                    "tray oak 3.0", "tray oak 1_0", " tray oak 3",
                    "tray abcdefghijklm 3", "oak 3", "come anna", "tray a 1 b 1 c 1 d 1 e 1 f 1 g 1", "tray oak 3\r",
                    "tray\toak 3", "tray oak 3 3", "trays oak 3", "tray oak 3 elm 02"):
            self.wrong(row, 0)
            self.wrong(row + "\ncome anna", 0)
            self.wrong(row + "\nno row", 0)

    def test_forms_of_deeds(self):
        head = ["tray oak 4 elm 3", "come anna", "begin 3", "say anna least 1"]
        for row in ("", " ", "come", "come ", "come Bert", "come bert ", " come bert", "come  bert", "come bert cleo",
                    "come bert 3", "leave", "leave bert", "leave anna anna", "begin", "begin 3", "say", "say anna",
                    "say anna ", "say anna alike", "say anna alike 0", "say anna alike 0 0", "say anna alike 0 1 2",
                    "say anna alike 00 1", "say anna alike 0 01", "say anna alike 0 -1", "say anna alike 0 +1",
                    "say anna alike 0 3", "say anna alike 0  1", "say anna alike 0 1 ", "say anna alike, 0 1",
                    "say anna least 0", "say anna least 4", "say anna least", "say anna least x", "say anna 0 1",
                    "say bert alike 0 1", "say alike 0 1", "Say anna alike 0 1", "withdraw", "withdraw anna",
                    "withdraw anna 1", "withdraw anna 00", "withdraw anna -0", "withdraw anna 0 0", "withdraw anna x",
                    "withdraw 0", "withdraw anna " + "9" * 180, "write", "write anna", "write anna ", "write anna 0",
                    "write anna 0 0", "write anna 0 0 0 0", "write anna 0 2 1", "write anna 1 0 0", "write anna 0 0 00",
                    "write anna 0 0 0 ", "write anna 0  0 0", "write anna (0, 0, 0)", "write anna 0,0,0",
                    "write bert 0 0 0", "write anna 0 x 0", "lift", "lift ash", "lift oak elm", "lift oak 1", "lift 0",
                    "lift oak ",
                    "stop ", "stop 1", "stop stop", " stop", "Stop", "tray oak 4", "back", "again", "none", "0",
                    "begin 03", "begin three", "come anna", "come an1", "come 1"):
            self.wrong("\n".join(head + [row]), 4)
            self.wrong("\n".join(head + [row, "stop"]), 4)
            self.wrong("\n".join(head + [row, "no row", ""]), 4)

    def test_good_rows_behind_the_same_head(self):
        head = ["tray oak 4 elm 3", "come anna", "begin 3", "say anna least 1"]
        for row in ("come bert", "leave anna", "say anna alike 0 1", "say anna unlike 2 0", "say anna least 3",
                    "say anna most 1", "withdraw anna 0", "write anna 0 1 2", "lift elm", "stop"):
            self.assertIsNone(self.told("\n".join(head + [row])))

    def test_refused_behind_the_rows_ahead(self):
        head = ["tray oak 1 none 0 elm 1", "come anna"]
        for rows, wrong in (
            (["begin 3"], 2),
            (["begin 2", "begin 1"], 3),
            (["stop"], 2),
            (["begin 2", "lift none"], 3),
            (["begin 2", "lift oak", "lift oak"], 4),
            (["begin 2", "lift oak", "say anna most 1"], 4),
            (["begin 2", "lift oak", "write anna 0 1"], 4),
            (["begin 2", "say anna alike 0 1", "say anna unlike 1 0"], 4),
            (["begin 2", "say anna alike 0 1", "say anna least 2"], 4),
            (["begin 2", "say anna alike 0 1", "write anna 0 1"], 4),
            (["begin 2", "say anna alike 0 1", "withdraw anna 0", "withdraw anna 0"], 5),
            (["begin 2", "leave anna", "write anna 0 1"], 4),
            (["begin 1", "lift oak", "stop"], 4),
            (["begin 1", "lift oak", "begin 2"], 4),
            (["come " + name for name in "abcdefghi"], 10),
        ):
            self.wrong("\n".join(head + rows), wrong)
            self.assertIsNone(self.told("\n".join((head + rows)[:wrong])))

    def test_a_line_feed_behind_the_last_row(self):
        self.wrong(TEXT + "\n", len(PLAYED) + 1)
        self.wrong("tray oak 4\n", 1)
        self.wrong(TEXT + "\n\n", len(PLAYED) + 1)
        self.wrong("\n" + TEXT, 0)

    def test_an_empty_row_put_in(self):
        rows = TEXT.split("\n")
        for place in range(len(rows) + 1):
            self.wrong("\n".join(rows[:place] + [""] + rows[place:]), place)

    def test_blanks_put_in(self):
        rows = TEXT.split("\n")
        for place, row in enumerate(rows):
            for at in range(len(row) + 1):
                if at in (0, len(row)) or " " in (row[at - 1], row[at]):
                    spoilt = rows[:place] + [row[:at] + " " + row[at:]] + rows[place + 1:]
                    self.wrong("\n".join(spoilt), place)

    def test_noughts_ahead_of_numbers(self):
        rows = TEXT.split("\n")
        for place, row in enumerate(rows):
            words = row.split(" ")
            for at, word in enumerate(words):
                if word.isdigit():
                    spoilt = " ".join(words[:at] + ["0" + word] + words[at + 1:])
                    self.wrong("\n".join(rows[:place] + [spoilt] + rows[place + 1:]), place)

    def test_each_sign_changed(self):
        found = set()
        for at in range(len(TEXT)):
            for sign in "a0 2\n~":
                found.add(self.told(TEXT[:at] + sign + TEXT[at + 1:]) is None)
        self.assertEqual(found, {True, False})

    def test_words_changed_put_in_and_taken_out(self):
        rows = TEXT.split("\n")
        for place, row in enumerate(rows):
            words = row.split(" ")
            for at in range(len(words) + 1):
                for word in ([], ["anna"], ["oak"], ["0"], ["2"], ["alike"], ["x1"]):
                    for gone in (0, 1):
                        spoilt = " ".join(words[:at] + word + words[at + gone:])
                        self.told("\n".join(rows[:place] + [spoilt] + rows[place + 1:]))

    def test_rows_gone_twice_and_exchanged(self):
        rows = TEXT.split("\n")
        for place in range(len(rows)):
            spoilt = [rows[:place] + rows[place + 1:], rows[:place + 1] + rows[place:]]
            spoilt += [rows[:place] + [rows[other]] + rows[place + 1:other] + [rows[place]] + rows[other + 1:]
                       for other in range(place + 1, len(rows))]
            for one in spoilt:
                self.told("\n".join(one))
        self.wrong("\n".join(rows[1:]), 0)
        self.wrong("\n".join(rows[:1] + rows), 1)
        self.wrong("\n".join(rows[:4] + rows[5:]), 4)
        self.wrong("\n".join(rows[:2] + rows[1:]), 2)
        self.wrong("\n".join(rows[:4] + [rows[5], rows[4]] + rows[6:]), 4)

    def test_the_first_wrong_row_is_told(self):
        rows = TEXT.split("\n")
        for first, second in itertools.combinations(range(len(rows)), 2):
            spoilt = list(rows)
            spoilt[first] = spoilt[second] = "no deed"
            self.wrong("\n".join(spoilt), first)


if __name__ == "__main__":
    unittest.main()
