import importlib
import inspect
import operator
import unittest

ARGUMENTS = {
    "censers.ways": {
        "is_way": ["row"],
        "woods": ["way"],
        "alike": ["way", "one", "other"],
        "lots": ["way"],
        "way_by": ["lists"],
        "way_of": ["numbers"],
        "joined": ["one", "other"],
        "met": ["one", "other"],
        "lies_within": ["one", "other"],
        "turned": ["way", "order"],
    },
    "censers.ranks": {
        "many": ["censers"],
        "many_of": ["censers", "count"],
        "number": ["way"],
        "by_number": ["censers", "number"],
        "following": ["way"],
    },
    "censers.marks": {
        "lie": ["way", "lot", "other"],
        "heights": ["way"],
        "mark": ["way"],
        "read_mark": ["text"],
    },
    "censers.steps": {
        "joinings": ["way"],
        "partings": ["way"],
        "steps": ["one", "other"],
        "path": ["one", "other"],
    },
    "censers.shifts": {
        "overlap": ["one", "other"],
        "kept": ["one", "other"],
        "moved": ["one", "other"],
    },
    "censers.tray": {
        "Tray": ["woods"],
        "Tray.all_woods": ["self"],
        "Tray.packets": ["self", "name"],
        "Tray.total": ["self"],
        "Tray.less": ["self", "name"],
    },
}


class Interface(unittest.TestCase):
    def test_names_and_arguments(self):
        for module, defs in ARGUMENTS.items():
            for name, arguments in defs.items():
                with self.subTest(module=module, name=name):
                    there = operator.attrgetter(name)(importlib.import_module(module))
                    told = inspect.signature(there).parameters
                    self.assertEqual(list(told), arguments)
                    self.assertTrue(all(one.default is one.empty for one in told.values()))


if __name__ == "__main__":
    unittest.main()
