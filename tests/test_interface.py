"""The interface: its names, arguments and places, of what has landed."""

import importlib
import inspect
import unittest

FUNCTIONS = {
    "cordsounds.numbers": {
        "is_whole": ["thing", "low", "high"], "is_name": ["thing"], "is_worth": ["thing"], "is_manner": ["thing"],
        "is_table": ["thing"], "folded": ["number", "manner"], "is_folded": ["number", "manner"],
        "table_worth": ["table", "place"], "next_noise": ["state"],
    },
    "cordsounds.parts": {
        "is_part": ["thing"], "ports_of": ["part"], "settings_of": ["part"], "turned": ["part", "name", "number"],
    },
    "cordsounds.plain": {"run": ["patch", "ins", "many"]},
}
CLASSES = {
    "cordsounds.workers": {
        "Worker": {
            "__init__": ["self", "part"], "part": ["self"], "ahead": ["self"], "sample": ["self", "ins"],
            "was_folded": ["self"], "give": ["self", "part"], "stands": ["self"], "twin": ["self"],
            "__eq__": ["self", "other"],
        },
    },
    "cordsounds.patch": {
        "Patch": {
            "__init__": ["self", "parts", "cords", "outs"], "parts": ["self"], "cords": ["self"], "outs": ["self"],
            "ins": ["self"], "order": ["self"], "part": ["self", "name"], "start": ["self", "goal", "port"],
            "is_order": ["self", "thing"], "with_part": ["self", "name", "part"], "with_cord": ["self", "cord"],
            "without_cord": ["self", "goal", "port"], "__eq__": ["self", "other"], "__len__": ["self"],
        },
    },
    "cordsounds.plain": {
        "PlainMachine": {
            "__init__": ["self", "patch"], "sample": ["self", "ins"], "patch": ["self"], "time": ["self"],
            "worth": ["self", "name"], "foldings": ["self"], "stands": ["self"], "twin": ["self"],
            "__eq__": ["self", "other"], "workers": ["self"], "re_patch": ["self", "patch"],
        },
    },
    "cordsounds.blocks": {
        "BlockMachine": {
            "__init__": ["self", "patch", "size", "order"], "run": ["self", "ins", "many"], "blocks": ["self"],
            "patch": ["self"], "time": ["self"], "foldings": ["self"], "stands": ["self"], "twin": ["self"],
        },
    },
    "cordsounds.live": {
        "Live": {
            "__init__": ["self", "patch"], "sample": ["self", "ins"],
            "turn": ["self", "name", "setting", "number", "over"], "put_cord": ["self", "start", "goal", "port"],
            "take_cord": ["self", "goal", "port"], "put_part": ["self", "name", "part"], "patch": ["self"],
            "time": ["self"], "worth": ["self", "name"], "turning": ["self"], "foldings": ["self"],
            "stands": ["self"], "twin": ["self"], "__eq__": ["self", "other"],
        },
    },
}
# Arguments that may be handed in by their names alone, with their defaults.
BY_NAME = [("cordsounds.blocks", "BlockMachine", "__init__", "order", None), ("cordsounds.live", "Live", "turn", "over", 0)]


class InterfaceTest(unittest.TestCase):
    def test_functions(self):
        for place, functions in FUNCTIONS.items():
            for name, names in functions.items():
                function = getattr(importlib.import_module(place), name)
                self.assertEqual(function.__module__, place)
                self.assertEqual(list(inspect.signature(function).parameters), names)

    def test_classes(self):
        for place, classes in CLASSES.items():
            for name, methods in classes.items():
                made = getattr(importlib.import_module(place), name)
                self.assertEqual(made.__module__, place)
                for method, names in methods.items():
                    self.assertEqual(list(inspect.signature(vars(made)[method]).parameters), names)

    def test_arguments_by_name_alone(self):
        for place, name, method, argument, default in BY_NAME:
            made = vars(getattr(importlib.import_module(place), name))[method]
            found = inspect.signature(made).parameters[argument]
            self.assertEqual((found.kind, found.default), (inspect.Parameter.KEYWORD_ONLY, default))


if __name__ == "__main__":
    unittest.main()
