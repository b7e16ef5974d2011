import importlib
import inspect
import operator
import unittest

ARGUMENTS = {
    "censers.ways": {
        "is_way": ["row"],
        "woods": ["way"],
        "alike": ["way", "one", "other"],
        "lots": ["way"],
        "way_by": ["lists"],
        "way_of": ["numbers"],
        "joined": ["one", "other"],
        "met": ["one", "other"],
        "lies_within": ["one", "other"],
        "turned": ["way", "order"],
    },
    "censers.ranks": {
        "many": ["censers"],
        "many_of": ["censers", "count"],
        "number": ["way"],
        "by_number": ["censers", "number"],
        "following": ["way"],
    },
    "censers.marks": {
        "lie": ["way", "lot", "other"],
        "heights": ["way"],
        "mark": ["way"],
        "read_mark": ["text"],
    },
    "censers.steps": {
        "joinings": ["way"],
        "partings": ["way"],
        "steps": ["one", "other"],
        "path": ["one", "other"],
    },
    "censers.shifts": {
        "overlap": ["one", "other"],
        "kept": ["one", "other"],
        "moved": ["one", "other"],
    },
    "censers.tray": {
        "Tray": ["woods"],
        "Tray.all_woods": ["self"],
        "Tray.packets": ["self", "name"],
        "Tray.total": ["self"],
        "Tray.less": ["self", "name"],
    },
    "censers.chances": {
        "row_chance": ["tray", "names"],
        "chance": ["tray", "way"],
        "chance_behind": ["tray", "opened", "way"],
        "chance_of": ["tray", "censers", "count"],
        "likeliest": ["tray", "censers"],
    },
    "censers.cases": {
        "settled": ["censers", "sayings"],
        "shows": ["censers", "sayings", "paper"],
    },
    "censers.sayings": {
        "Sayings": ["censers"],
        "Sayings.censers": ["self"],
        "Sayings.say": ["self", "saying"],
        "Sayings.withdraw": ["self", "number"],
        "Sayings.said": ["self"],
        "Sayings.standing": ["self"],
        "Sayings.chain": ["self", "one", "other"],
        "Sayings.told": ["self", "one", "other"],
        "Sayings.why": ["self", "one", "other"],
        "Sayings.twin": ["self"],
    },
    "censers.fits": {
        "fits": ["sayings"],
        "fit": ["sayings", "number"],
        "fit_number": ["sayings", "way"],
        "by_woods": ["sayings"],
        "fewest": ["sayings"],
        "most": ["sayings"],
    },
}


class Interface(unittest.TestCase):
    def test_names_and_arguments(self):
        for module, defs in ARGUMENTS.items():
            for name, arguments in defs.items():
                with self.subTest(module=module, name=name):
                    there = operator.attrgetter(name)(importlib.import_module(module))
                    told = inspect.signature(there).parameters
                    self.assertEqual(list(told), arguments)
                    self.assertTrue(all(one.default is one.empty for one in told.values()))


if __name__ == "__main__":
    unittest.main()
