"""The interface: its names, arguments and places, of what has landed."""

import importlib
import inspect
import unittest

FUNCTIONS = {
    "cordsounds.numbers": {
        "is_whole": ["thing", "low", "high"], "is_name": ["thing"], "is_worth": ["thing"], "is_manner": ["thing"],
        "is_table": ["thing"], "folded": ["number", "manner"], "is_folded": ["number", "manner"],
        "table_worth": ["table", "place"], "next_noise": ["state"],
    },
    "cordsounds.parts": {
        "is_part": ["thing"], "ports_of": ["part"], "settings_of": ["part"], "turned": ["part", "name", "number"],
    },
    "cordsounds.plain": {"run": ["patch", "ins", "many"]},
    "cordsounds.songs": {"is_pattern": ["thing"], "moved": ["pattern", "keys"], "stretched": ["pattern", "factor"]},
    "cordsounds.sounder": {"replayed": ["patch", "many", "log", "samples", "song"]},
    "cordsounds.bounds": {"bounds": ["part"], "reaching": ["part"], "never_folds": ["part"]},
    "cordsounds.smaller": {
        "unheard": ["patch"], "steady": ["patch"], "smaller": ["patch"], "parted": ["one", "other", "length"],
        "shows_parted": ["one", "other", "thing"],
    },
    "cordsounds.texts": {
        "patch_text": ["patch"], "read_patch": ["text"], "song_text": ["song"], "read_song": ["text"],
    },
    "cordsounds.logtexts": {
        "log_text": ["log"], "read_log": ["text"], "samples_text": ["rows"], "read_samples": ["text"],
    },
}
CLASSES = {
    "cordsounds.workers": {
        "Worker": {
            "__init__": ["self", "part"], "part": ["self"], "ahead": ["self"], "sample": ["self", "ins"],
            "was_folded": ["self"], "give": ["self", "part"], "stands": ["self"], "twin": ["self"],
            "__eq__": ["self", "other"],
        },
    },
    "cordsounds.patch": {
        "Patch": {
            "__init__": ["self", "parts", "cords", "outs"], "parts": ["self"], "cords": ["self"], "outs": ["self"],
            "ins": ["self"], "order": ["self"], "part": ["self", "name"], "start": ["self", "goal", "port"],
            "is_order": ["self", "thing"], "with_part": ["self", "name", "part"], "with_cord": ["self", "cord"],
            "without_cord": ["self", "goal", "port"], "__eq__": ["self", "other"], "__len__": ["self"],
        },
    },
    "cordsounds.plain": {
        "PlainMachine": {
            "__init__": ["self", "patch"], "sample": ["self", "ins"], "patch": ["self"], "time": ["self"],
            "worth": ["self", "name"], "foldings": ["self"], "stands": ["self"], "twin": ["self"],
            "__eq__": ["self", "other"], "workers": ["self"], "re_patch": ["self", "patch"],
        },
    },
    "cordsounds.blocks": {
        "BlockMachine": {
            "__init__": ["self", "patch", "size", "order"], "run": ["self", "ins", "many"], "blocks": ["self"],
            "patch": ["self"], "time": ["self"], "foldings": ["self"], "stands": ["self"], "twin": ["self"],
        },
    },
    "cordsounds.live": {
        "Live": {
            "__init__": ["self", "patch"], "sample": ["self", "ins"],
            "turn": ["self", "name", "setting", "number", "over"], "put_cord": ["self", "start", "goal", "port"],
            "take_cord": ["self", "goal", "port"], "put_part": ["self", "name", "part"], "patch": ["self"],
            "time": ["self"], "worth": ["self", "name"], "turning": ["self"], "foldings": ["self"],
            "stands": ["self"], "twin": ["self"], "__eq__": ["self", "other"],
        },
    },
    "cordsounds.choir": {
        "Choir": {
            "__init__": ["self", "patch", "many"], "sample": ["self"], "press": ["self", "key", "force"],
            "let_go": ["self", "key"], "pedal": ["self", "down"],
            "turn": ["self", "name", "setting", "number", "over"], "put_cord": ["self", "start", "goal", "port"],
            "take_cord": ["self", "goal", "port"], "patch": ["self"], "how_many": ["self"], "time": ["self"],
            "is_pedal_down": ["self"], "voices": ["self"], "foldings": ["self"], "stolen": ["self"],
            "was_clipped": ["self"], "twin": ["self"], "__eq__": ["self", "other"], "stands": ["self"],
            "lives": ["self"],
        },
    },
    "cordsounds.songs": {
        "Song": {
            "__init__": ["self", "patterns", "row", "tempos"], "sample_of": ["self", "tick"], "ticks": ["self"],
            "notes": ["self"], "deeds": ["self"], "patterns": ["self"], "row": ["self"], "tempos": ["self"],
            "with_tempos": ["self", "tempos"], "with_pattern": ["self", "name", "pattern"],
            "__eq__": ["self", "other"],
        },
    },
    "cordsounds.sounder": {
        "Sounder": {
            "__init__": ["self", "patch", "many", "song"], "samples": ["self", "many"],
            "press": ["self", "key", "force"], "let_go": ["self", "key"], "pedal": ["self", "down"],
            "turn": ["self", "name", "setting", "number", "over"], "put_cord": ["self", "start", "goal", "port"],
            "take_cord": ["self", "goal", "port"], "save": ["self", "name"], "lead": ["self", "name", "over"],
            "put_back": ["self", "name"], "stands": ["self"], "recorded": ["self"], "clipped": ["self"],
            "log": ["self"], "choir": ["self"], "song": ["self"], "time": ["self"], "twin": ["self"],
        },
    },
    "cordsounds.desk": {
        "Desk": {"__init__": ["self"], "say": ["self", "line"], "say_all": ["self", "lines"]},
    },
}
# Arguments that may be handed in by their names alone, with their defaults.
BY_NAME = [("cordsounds.blocks", "BlockMachine", "__init__", "order", None),
           ("cordsounds.live", "Live", "turn", "over", 0), ("cordsounds.choir", "Choir", "turn", "over", 0),
           ("cordsounds.sounder", "Sounder", "__init__", "song", None),
           ("cordsounds.sounder", "Sounder", "turn", "over", 0), ("cordsounds.sounder", "Sounder", "lead", "over", 0)]
# Those that may be left out, or handed in by their places.
DEFAULTS = [("cordsounds.choir", "Choir", "press", "force", 1024), ("cordsounds.sounder", "Sounder", "press", "force", 1024)]


class InterfaceTest(unittest.TestCase):
    def test_functions(self):
        for place, functions in FUNCTIONS.items():
            for name, names in functions.items():
                function = getattr(importlib.import_module(place), name)
                self.assertEqual(function.__module__, place)
                self.assertEqual(list(inspect.signature(function).parameters), names)

    def test_classes(self):
        for place, classes in CLASSES.items():
            for name, methods in classes.items():
                made = getattr(importlib.import_module(place), name)
                self.assertEqual(made.__module__, place)
                for method, names in methods.items():
                    self.assertEqual(list(inspect.signature(vars(made)[method]).parameters), names)

    def test_defaults(self):
        for place, name, method, argument, default in DEFAULTS:
            made = vars(getattr(importlib.import_module(place), name))[method]
            found = inspect.signature(made).parameters[argument]
            self.assertEqual((found.kind, found.default), (inspect.Parameter.POSITIONAL_OR_KEYWORD, default))

    def test_a_functions_argument_by_name_alone(self):
        found = inspect.signature(importlib.import_module("cordsounds.sounder").replayed).parameters["song"]
        self.assertEqual((found.kind, found.default), (inspect.Parameter.KEYWORD_ONLY, None))

    def test_arguments_by_name_alone(self):
        for place, name, method, argument, default in BY_NAME:
            made = vars(getattr(importlib.import_module(place), name))[method]
            found = inspect.signature(made).parameters[argument]
            self.assertEqual((found.kind, found.default), (inspect.Parameter.KEYWORD_ONLY, default))


if __name__ == "__main__":
    unittest.main()
