"""Points 3, 21: parts, their ports, and their settings that may be turned."""

import unittest

from cordsounds.errors import NoNumber, NoPart, NoSetting
from cordsounds.parts import is_part, ports_of, settings_of, turned
from things import PARTS, SoundTest, any_things

HUGE = 10 ** 30 - 1
TABLES = ("saw", "square", "tri", "pulse", "hump")
MANNERS = ("clip", "wrap", "fold")

# Of each number of a part, a maker of the part, its least and its greatest.
NUMBERS = [
    (lambda n: ("wave", "saw", n), 0, 2048),
    (lambda n: ("slow", "saw", n), 0, 2048),
    (lambda n: ("noise", n), 0, 4095),
    (lambda n: ("shape", n, 5, 5, 5), 1, 2047),
    (lambda n: ("shape", 5, n, 5, 5), 1, 2047),
    (lambda n: ("shape", 5, 5, n, 5), 0, 2047),
    (lambda n: ("shape", 5, 5, 5, n), 1, 2047),
    (lambda n: ("taps", (n,), "clip"), -256, 256),
    (lambda n: ("taps", (0, 0, 0, 0, 0, 0, 0, n), "clip"), -256, 256),
    (lambda n: ("mix", (n, 0), "fold"), -256, 256),
    (lambda n: ("mix", (0, 0, 0, n), "fold"), -256, 256),
    (lambda n: ("delay", n), 1, 64),
    (lambda n: ("follow", n), 1, 2047),
]


class IsPartTest(SoundTest):
    def test_parts_of_all_kinds(self):
        for part in PARTS.values():
            self.tells_truth(is_part(part), True)
        for table in TABLES:
            self.tells_truth(is_part(("wave", table, 1)), True)
            self.tells_truth(is_part(("slow", table, 1)), True)
        for manner in MANNERS:
            self.tells_truth(is_part(("taps", (1,), manner)), True)
            self.tells_truth(is_part(("mix", (1,), manner)), True)
            self.tells_truth(is_part(("times", manner)), True)
        self.tells_truth(is_part(("from", "abcdefgh")), True)
        self.tells_truth(is_part(thing=("noise", 0)), True)

    def test_numbers_at_each_bound_and_one_beyond(self):
        for made, low, high in NUMBERS:
            for number in (low, low + 1, high - 1, high):
                self.tells_truth(is_part(made(number)), True)
            for number in (low - 1, high + 1, -HUGE, HUGE):
                self.tells_truth(is_part(made(number)), False)

    def test_any_thing_in_a_numbers_place(self):
        for made, _, _ in NUMBERS:
            for thing in any_things():
                self.tells_truth(is_part(made(thing)), False)

    def test_how_many_factors(self):
        for kind, most in (("taps", 8), ("mix", 4)):
            for many in range(1, most + 1):
                self.tells_truth(is_part((kind, (1,) * many, "clip")), True)
            for many in (0, most + 1, 650):
                self.tells_truth(is_part((kind, (1,) * many, "clip")), False)

    def test_any_thing_in_another_settings_place(self):
        for thing in any_things() + ["none", [1], [1, 2]]:
            if not isinstance(thing, str) or thing != "none":
                self.tells_truth(is_part(("from", thing)), False)
            for part in (("wave", thing, 1), ("slow", thing, 1), ("taps", (1,), thing), ("mix", (1,), thing),
                         ("times", thing)):
                self.tells_truth(is_part(part), False)
            if thing != (0,):
                self.tells_truth(is_part(("taps", thing, "clip")), False)
                self.tells_truth(is_part(("mix", thing, "clip")), False)
        self.tells_truth(is_part(("times", "saw")), False)
        self.tells_truth(is_part(("wave", "clip", 1)), False)

    def test_any_thing_in_the_kinds_place(self):
        for kind in any_things() + ["part", "From", "waves", "gate", 5]:
            for part in PARTS.values():
                self.tells_truth(is_part((kind,) + part[1:]), False)
            self.tells_truth(is_part((kind,)), False)

    def test_things_more_or_fewer(self):
        for part in PARTS.values():
            for thing in (None, 1, "clip", (1,)):
                self.tells_truth(is_part(part + (thing,)), False)
            for many in range(len(part)):
                self.tells_truth(is_part(part[:many]), False)

    def test_lists_in_a_tuples_place(self):
        for part in PARTS.values():
            self.tells_truth(is_part(list(part)), False)
            self.tells_truth(is_part((part,)), False)
        self.tells_truth(is_part(("taps", [1, 2], "clip")), False)
        self.tells_truth(is_part(("mix", [1, 2], "clip")), False)

    def test_kinds_do_not_take_each_others_settings(self):
        fitting = {("wave", "slow"), ("slow", "wave"), ("taps", "mix"), ("mix", "taps"), ("noise", "delay"),
                   ("noise", "follow"), ("delay", "noise"), ("delay", "follow"), ("follow", "noise"),
                   ("follow", "delay"), ("times", "from")}
        for kind, part in PARTS.items():
            for other in PARTS:
                wanted = kind == other or (kind, other) in fitting
                self.tells_truth(is_part((other,) + part[1:]), wanted)

    def test_other_things_are_no_parts(self):
        for thing in any_things():
            self.tells_truth(is_part(thing), False)


class PortsTest(SoundTest):
    def test_ports_of_each_kind(self):
        wanted = {"from": (), "wave": ("pitch",), "slow": (), "noise": (), "shape": ("gate",), "taps": ("in",),
                  "times": ("a", "b"), "delay": ("in",), "follow": ("in",), "mix": ("a", "b")}
        for kind, part in PARTS.items():
            self.assertEqual(ports_of(part), wanted[kind])
            self.assertIsInstance(ports_of(part), tuple)
        self.assertEqual(ports_of(part=PARTS["times"]), ("a", "b"))

    def test_ports_of_mixers_are_as_many_as_factors(self):
        for many in range(1, 5):
            self.assertEqual(ports_of(("mix", (0,) * many, "clip")), ("a", "b", "c", "d")[:many])
        for many in range(1, 9):
            self.assertEqual(ports_of(("taps", (0,) * many, "clip")), ("in",))

    def test_refused(self):
        for thing in any_things() + [list(PARTS["wave"]), ("wave", "saw", True), ("delay", 0)]:
            self.refused(NoPart, thing, ports_of, thing)


class SettingsTest(SoundTest):
    def test_settings_of_each_kind_in_their_order(self):
        wanted = {
            "wave": [("step", 100)], "slow": [("step", 100)], "follow": [("step", 10)],
            "shape": [("up", 1000), ("down", 500), ("stay", 300), ("away", 200)],
            "taps": [("x0", 64), ("x1", -128), ("x2", 256)], "mix": [("x0", 256), ("x1", -256)],
        }
        for kind, part in PARTS.items():
            self.assertEqual(list(settings_of(part).items()), wanted.get(kind, []))
        eight = ("taps", (1, 2, 3, 4, 5, 6, 7, 8), "clip")
        self.assertEqual(list(settings_of(part=eight).items()), [(f"x{at}", at + 1) for at in range(8)])

    def test_told_anew_each_time(self):
        for part in PARTS.values():
            first = settings_of(part)
            first["other"] = 1
            self.assertNotIn("other", settings_of(part))

    def test_refused(self):
        for thing in any_things() + [list(PARTS["mix"]), ("mix", (1, True), "clip"), ("mix", [1], "clip")]:
            self.refused(NoPart, thing, settings_of, thing)


class TurnedTest(SoundTest):
    def test_each_setting_turned_by_itself(self):
        shape = PARTS["shape"]
        for part, name, number, wanted in (
            (PARTS["wave"], "step", 2048, ("wave", "saw", 2048)),
            (PARTS["slow"], "step", 0, ("slow", "tri", 0)),
            (PARTS["follow"], "step", 2047, ("follow", 2047)),
            (shape, "up", 7, ("shape", 7, 500, 300, 200)),
            (shape, "down", 7, ("shape", 1000, 7, 300, 200)),
            (shape, "stay", 7, ("shape", 1000, 500, 7, 200)),
            (shape, "away", 7, ("shape", 1000, 500, 300, 7)),
            (PARTS["taps"], "x0", -256, ("taps", (-256, -128, 256), "clip")),
            (PARTS["taps"], "x1", 5, ("taps", (64, 5, 256), "clip")),
            (PARTS["taps"], "x2", 0, ("taps", (64, -128, 0), "clip")),
            (PARTS["mix"], "x1", 256, ("mix", (256, 256), "wrap")),
            (("mix", (7,), "fold"), "x0", 8, ("mix", (8,), "fold")),
            (("taps", (0,) * 8, "fold"), "x7", 8, ("taps", (0, 0, 0, 0, 0, 0, 0, 8), "fold")),
        ):
            self.assertEqual(turned(part, name, number), wanted)
            self.assertEqual(turned(number=number, name=name, part=part), wanted)
            self.tells_truth(is_part(turned(part, name, number)), True)

    def test_turned_to_what_it_is(self):
        for part in PARTS.values():
            for name, number in settings_of(part).items():
                self.assertEqual(turned(part, name, number), part)

    def test_numbers_at_each_bound_and_one_beyond(self):
        bounds = {"wave": (0, 2048), "slow": (0, 2048), "follow": (1, 2047), "shape": (1, 2047),
                  "taps": (-256, 256), "mix": (-256, 256)}
        for kind, (low, high) in bounds.items():
            for name in settings_of(PARTS[kind]):
                least = 0 if name == "stay" else low
                for number in (least, high):
                    self.assertEqual(settings_of(turned(PARTS[kind], name, number))[name], number)
                for number in (least - 1, high + 1, HUGE, -HUGE):
                    self.refused(NoNumber, number, turned, PARTS[kind], name, number)
                for thing in any_things():
                    self.refused(NoNumber, thing, turned, PARTS[kind], name, thing)

    def test_what_may_not_be_turned(self):
        for kind, name in (("delay", "many"), ("noise", "seed"), ("from", "name"), ("wave", "table"),
                           ("times", "manner"), ("taps", "manner"), ("mix", "factors"), ("taps", "x3"),
                           ("mix", "x2"), ("taps", "x"), ("taps", "x00"), ("taps", "x-1"), ("taps", "0"),
                           ("shape", "step"), ("follow", "up"), ("wave", "pitch"), ("shape", "gate")):
            self.refused(NoSetting, name, turned, PARTS[kind], name, 1)

    def test_any_thing_in_the_names_place(self):
        for part in PARTS.values():
            for thing in any_things():
                self.refused(NoSetting, thing, turned, part, thing, 1)

    def test_of_several_wrong_things_the_first_is_refused(self):
        for thing in any_things():
            self.refused(NoPart, thing, turned, thing, thing, thing)
            self.refused(NoPart, thing, turned, thing, "step", 1)
            self.refused(NoSetting, thing, turned, PARTS["wave"], thing, thing)
        self.refused(NoSetting, "x9", turned, number=None, name="x9", part=PARTS["taps"])


if __name__ == "__main__":
    unittest.main()
