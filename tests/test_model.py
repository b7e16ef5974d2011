"""Rooms and books held against a plain record, kept by the document's words alone, over many random deeds."""

import copy
import random
import re
import unittest

from censers.book import Book, read_book
from censers.errors import CenserError
from censers.tray import Tray
from tests.helper import all_sayings, fits_saying, fits_words, fitting, outlook, pattern, ways_of

WOODS = [("oak", 6), ("elm", 5), ("pine", 1), ("none", 0)]


class Refused(Exception):
    """The name of the refusal that is due."""


class Record:
    """A room told by plain lists and dicts."""

    def __init__(self):
        self.woods = dict(WOODS)
        self.people = {}
        self.size = 0
        self.lids = []
        self.gone = []

    def need(self, holds, refusal):
        if not holds:
            raise Refused(refusal)

    def fresh(self):
        return {"points": 0, "said": [], "written": None}

    def ready(self, name):
        self.need(name in self.people, "NoListener")
        self.need(self.size, "NoRound")
        self.need(not self.lids, "Opened")
        return self.people[name]

    def come(self, name):
        self.need(re.fullmatch("[a-z]{1,12}", name), "BadName")
        self.need(name not in self.people, "Taken")
        self.need(len(self.people) < 9, "Full")
        self.people[name] = self.fresh()

    def leave(self, name):
        self.need(name in self.people, "NoListener")
        del self.people[name]

    def begin(self, many):
        self.need(not self.size, "UnderWay")
        self.need(1 <= many <= 9, "BadMany")
        self.need(sum(self.woods.values()) >= many, "TooFew")
        self.close()
        self.size = many

    def close(self):
        self.size, self.lids = 0, []
        for person in self.people.values():
            person["said"], person["written"] = [], None

    def say(self, name, saying):
        person = self.ready(name)
        outside = len(saying) == 3 and not {saying[1], saying[2]} <= set(range(self.size))
        self.need(saying in all_sayings(self.size) or outside and saying[1] != saying[2], "BadSaying")
        self.need(not outside, "NoCenser")
        standing = [one for one in person["said"] if one]
        twos = [one for one in standing + [saying] if len(one) == 3]
        self.need(len(saying) == 2 or fitting(self.size, twos), "Clash")
        self.need(fitting(self.size, standing + [saying]), "NoFit")
        person["said"].append(saying)
        if person["written"] and not fits_saying(person["written"], saying):
            person["written"] = None
        return len(person["said"]) - 1

    def withdraw(self, name, number):
        said = self.ready(name)["said"]
        self.need(number in range(len(said)), "NoSaying")
        self.need(said[number], "Withdrawn")
        saying, said[number] = said[number], None
        return saying

    def write(self, name, way):
        person = self.ready(name)
        self.need(fits_words(way) and len(way) == self.size, "BadWay")
        self.need(all(fits_saying(way, one) for one in person["said"] if one), "Misfit")
        person["written"] = way

    def lift(self, wood):
        self.need(self.size, "NoRound")
        self.need(wood in self.woods, "NoWood")
        self.need(self.woods[wood], "Empty")
        self.woods[wood] -= 1
        self.lids.append(wood)
        if len(self.lids) < self.size:
            return None
        way, got = pattern(self.lids), []
        for name, person in self.people.items():
            if person["written"]:
                same = [(way[k] == way[m]) == (person["written"][k] == person["written"][m])
                        for k in range(self.size) for m in range(k)]
                got.append((name, sum(same)))
                person["points"] += sum(same)
        self.gone.append((self.lids, got))
        self.close()
        return list(got)

    def stop(self):
        self.need(self.size, "NoRound")
        self.close()

    def outlook(self):
        """As the helper's outlook tells a room."""
        standings = sorted(((name, person["points"]) for name, person in self.people.items()), key=lambda two: -two[1])
        facts = [list(self.woods.items()), list(self.people), standings, self.size > 0]
        facts += [person["points"] for person in self.people.values()] + self.gone
        if self.size:
            facts += [self.size, self.lids]
            for person in self.people.values():
                said = person["said"]
                standing = [(number, saying) for number, saying in enumerate(said) if saying]
                facts += [standing, len(said), self.size, person["written"]]
        return facts


def some_deed(source, record, crowd):
    """A random deed, now and then a bad one; in a crowd many come, else few, who say more."""
    size = record.size or 3
    name = source.choice(["anna", "bert", "c", "d", "e", "f", "g", "h", "i", "j", "k", "Anna", ""][:13 if crowd else 2])
    saying = source.choice(all_sayings(size) + [(), ("alike", 0, size), ("least", size + 1), ("alike", 1, 1)])
    way = source.choice(ways_of(size) + [(0,) * (size + 1), (1,), ()])
    wood = source.choice(["oak", "oak", "elm", "elm", "pine", "none", "ash"])
    choice = [("come", name)] * (6 if crowd else 1) + [("begin", source.choice([1, 2, 3, 3, 4, 4, 0, 9, 10]))] * 2
    choice += [("say", name, saying)] * 5 + [("withdraw", name, source.choice([0, 0, 1, 1, 2, 3, -1, 8]))] * 2
    choice += [("write", name, way)] * 3
    # A round in which nobody says much more is brought to its end.
    if source.random() < (0.4 if record.lids else 0.05):
        choice = [("leave", name), ("stop",)] + [("lift", wood)] * 10
    return source.choice(choice)


def answer(ask, *things):
    """What is told, or the name of the refusal."""
    try:
        return ("told", ask(*things))
    except Refused as refusal:
        return ("refused", str(refusal))
    except CenserError as refusal:
        return ("refused", type(refusal).__name__)


class Model(unittest.TestCase):
    def test_random_deeds(self):
        heard = set()
        for seed in range(25):
            source, book, record, stages, deeds, ahead = random.Random(seed), Book(Tray(WOODS)), Record(), [], [], []
            for turn in range(200):
                if source.random() < 0.12 and stages:
                    self.assertEqual(book.back(), deeds[-1])
                    ahead.append((deeds.pop(), record))
                    record = stages.pop()
                elif source.random() < 0.1 and ahead:
                    deed, later = ahead.pop()
                    self.assertEqual(book.again(), deed)
                    stages.append(record)
                    deeds.append(deed)
                    record = later
                else:
                    deed = some_deed(source, record, seed % 2)
                    later = copy.deepcopy(record)
                    told = answer(getattr(later, deed[0]), *deed[1:])
                    self.assertEqual(answer(book.do, deed), told, deed)
                    heard.add(told[1] if told[0] == "refused" else deed[0])
                    if told[0] == "told":
                        stages.append(record)
                        deeds.append(deed)
                        record, ahead = later, []
                self.assertEqual(outlook(book.room()), record.outlook())
                self.assertEqual(book.deeds(), deeds)
            self.assertEqual(outlook(read_book(book.text()).room()), record.outlook())
        self.assertGreaterEqual(heard, set("come leave begin say withdraw write lift stop".split()))
        self.assertGreaterEqual(heard, set(
            "BadName Taken NoListener UnderWay BadMany TooFew NoRound Opened BadSaying NoCenser Clash NoFit NoSaying "
            "Withdrawn BadWay Misfit NoWood Empty Full".split()
        ))


if __name__ == "__main__":
    unittest.main()
