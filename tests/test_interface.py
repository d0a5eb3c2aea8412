"""The interface: its names, arguments and places, of what has landed."""

import importlib
import inspect
import unittest

FUNCTIONS = {
    "cordsounds.numbers": {
        "is_whole": ["thing", "low", "high"], "is_name": ["thing"], "is_worth": ["thing"], "is_manner": ["thing"],
        "is_table": ["thing"], "folded": ["number", "manner"], "is_folded": ["number", "manner"],
        "table_worth": ["table", "place"], "next_noise": ["state"],
    },
    "cordsounds.parts": {
        "is_part": ["thing"], "ports_of": ["part"], "settings_of": ["part"], "turned": ["part", "name", "number"],
    },
}
CLASSES = {
    "cordsounds.workers": {
        "Worker": {
            "__init__": ["self", "part"], "part": ["self"], "ahead": ["self"], "sample": ["self", "ins"],
            "was_folded": ["self"], "give": ["self", "part"], "stands": ["self"], "twin": ["self"],
            "__eq__": ["self", "other"],
        },
    },
}


class InterfaceTest(unittest.TestCase):
    def test_functions(self):
        for place, functions in FUNCTIONS.items():
            for name, names in functions.items():
                function = getattr(importlib.import_module(place), name)
                self.assertEqual(function.__module__, place)
                self.assertEqual(list(inspect.signature(function).parameters), names)

    def test_classes(self):
        for place, classes in CLASSES.items():
            for name, methods in classes.items():
                made = getattr(importlib.import_module(place), name)
                self.assertEqual(made.__module__, place)
                for method, names in methods.items():
                    self.assertEqual(list(inspect.signature(vars(made)[method]).parameters), names)


if __name__ == "__main__":
    unittest.main()
