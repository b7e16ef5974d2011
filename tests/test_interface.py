import importlib
import inspect
import operator
import unittest

ARGUMENTS = {
    "censers.ways": {
        "is_way": ["row"],
        "woods": ["way"],
        "alike": ["way", "one", "other"],
        "lots": ["way"],
        "way_by": ["lists"],
        "way_of": ["numbers"],
        "joined": ["one", "other"],
        "met": ["one", "other"],
        "lies_within": ["one", "other"],
        "turned": ["way", "order"],
    },
    "censers.ranks": {
        "many": ["censers"],
        "many_of": ["censers", "count"],
        "number": ["way"],
        "by_number": ["censers", "number"],
        "following": ["way"],
    },
    "censers.marks": {
        "lie": ["way", "lot", "other"],
        "heights": ["way"],
        "mark": ["way"],
        "read_mark": ["text"],
    },
    "censers.steps": {
        "joinings": ["way"],
        "partings": ["way"],
        "steps": ["one", "other"],
        "path": ["one", "other"],
    },
    "censers.shifts": {
        "overlap": ["one", "other"],
        "kept": ["one", "other"],
        "moved": ["one", "other"],
    },
    "censers.tray": {
        "Tray": ["woods"],
        "Tray.all_woods": ["self"],
        "Tray.packets": ["self", "name"],
        "Tray.total": ["self"],
        "Tray.less": ["self", "name"],
    },
    "censers.chances": {
        "row_chance": ["tray", "names"],
        "chance": ["tray", "way"],
        "chance_behind": ["tray", "opened", "way"],
        "chance_of": ["tray", "censers", "count"],
        "likeliest": ["tray", "censers"],
    },
    "censers.cases": {
        "settled": ["censers", "sayings"],
        "shows": ["censers", "sayings", "paper"],
    },
    "censers.sayings": {
        "Sayings": ["censers"],
        "Sayings.censers": ["self"],
        "Sayings.say": ["self", "saying"],
        "Sayings.withdraw": ["self", "number"],
        "Sayings.said": ["self"],
        "Sayings.standing": ["self"],
        "Sayings.chain": ["self", "one", "other"],
        "Sayings.told": ["self", "one", "other"],
        "Sayings.why": ["self", "one", "other"],
        "Sayings.twin": ["self"],
    },
    "censers.fits": {
        "fits": ["sayings"],
        "fit": ["sayings", "number"],
        "fit_number": ["sayings", "way"],
        "by_woods": ["sayings"],
        "fewest": ["sayings"],
        "most": ["sayings"],
    },
    "censers.council": {
        "agreement": ["one", "other"],
        "council": ["ways"],
    },
    "censers.hopes": {
        "hope": ["tray", "opened", "sayings"],
        "best": ["tray", "opened", "sayings"],
    },
    "censers.room": {
        "Room": ["tray"],
        "Room.come": ["self", "name"],
        "Room.leave": ["self", "name"],
        "Room.begin": ["self", "many"],
        "Room.say": ["self", "name", "saying"],
        "Room.withdraw": ["self", "name", "number"],
        "Room.write": ["self", "name", "way"],
        "Room.lift": ["self", "wood"],
        "Room.stop": ["self"],
        "Room.tray": ["self"],
        "Room.listeners": ["self"],
        "Room.points": ["self", "name"],
        "Room.standings": ["self"],
        "Room.rounds": ["self"],
        "Room.gone_by": ["self", "number"],
        "Room.under_way": ["self"],
        "Room.censers": ["self"],
        "Room.opened": ["self"],
        "Room.sayings": ["self", "name"],
        "Room.written": ["self", "name"],
        "Room.hope": ["self", "name"],
        "Room.best": ["self", "name"],
        "Room.twin": ["self"],
    },
    "censers.book": {
        "Book": ["tray"],
        "Book.do": ["self", "deed"],
        "Book.back": ["self"],
        "Book.again": ["self"],
        "Book.deeds": ["self"],
        "Book.room": ["self"],
        "Book.text": ["self"],
        "read_book": ["text"],
    },
}


class Interface(unittest.TestCase):
    def test_names_and_arguments(self):
        for module, defs in ARGUMENTS.items():
            for name, arguments in defs.items():
                with self.subTest(module=module, name=name):
                    there = operator.attrgetter(name)(importlib.import_module(module))
                    told = inspect.signature(there).parameters
                    self.assertEqual(list(told), arguments)
                    self.assertTrue(all(one.default is one.empty for one in told.values()))


if __name__ == "__main__":
    unittest.main()
