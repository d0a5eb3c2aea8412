"""Points 2, 11, 12, 13: whole numbers, names, manners, tables, noise."""

import unittest

from cordsounds.errors import NoManner, NoNumber, NoTable
from cordsounds.numbers import (
    MANNERS, TABLES, folded, is_folded, is_manner, is_name, is_table, is_whole, is_worth, next_noise, table_worth,
)
from things import SoundTest, any_things

HUGE = 10 ** 30 - 1


def walked(count):
    """The worths that fold tells of 0, 1, 2 .., found by walking up and down step by step."""
    told, worth, step = [], 0, 1
    for _ in range(count):
        told.append(worth)
        if -2048 <= worth + step <= 2047:
            worth += step
        else:
            step = -step
    return told


class WhetherTest(SoundTest):
    def test_whole_numbers_at_each_bound_and_one_beyond(self):
        for low, high in ((0, 63), (-5, 5), (3, 3), (-HUGE, HUGE), (0, 0), (1, 2047)):
            for number in (low, high, (low + high) // 2):
                self.tells_truth(is_whole(number, low, high), True)
            for number in (low - 1, high + 1):
                self.tells_truth(is_whole(number, low, high), False)
        self.tells_truth(is_whole(1, 2, 0), False)
        self.tells_truth(is_whole(thing=1, low=0, high=2), True)

    def test_truths_and_other_things_are_no_whole_numbers(self):
        for thing in any_things():
            if isinstance(thing, int) and not isinstance(thing, bool):
                continue
            self.tells_truth(is_whole(thing, -HUGE, HUGE), False)

    def test_names(self):
        for name in ("a", "z", "az", "from", "abcdefgh", "zzzzzzzz"):
            self.tells_truth(is_name(name), True)
        for name in ("", "abcdefghi", "A", "aB", "a1", "a b", " a", "a ", "a\n", "a-b", "`", "{", "x0", "a_b", "a" * 4000,
                     chr(233), "a" + chr(233)):
            self.tells_truth(is_name(name), False)
        self.tells_truth(is_name(thing="a"), True)

    def test_worths(self):
        for number in (-2048, -2047, -1, 0, 1, 2046, 2047):
            self.tells_truth(is_worth(number), True)
        for number in (-2049, 2048, HUGE, -HUGE):
            self.tells_truth(is_worth(number), False)
        self.tells_truth(is_worth(thing=0), True)

    def test_manners_and_tables(self):
        self.assertEqual(MANNERS, ("clip", "wrap", "fold"))
        self.assertEqual(TABLES, ("saw", "square", "tri", "pulse", "hump"))
        self.assertIsInstance(MANNERS, tuple)
        self.assertIsInstance(TABLES, tuple)
        for name in MANNERS + TABLES + ("none", "cli", "clips", "Clip", "", "saww"):
            self.tells_truth(is_manner(name), name in ("clip", "wrap", "fold"))
            self.tells_truth(is_table(name), name in ("saw", "square", "tri", "pulse", "hump"))
        self.tells_truth(is_manner(thing="wrap"), True)
        self.tells_truth(is_table(thing="hump"), True)

    def test_any_other_thing_is_none_of_them(self):
        for thing in any_things():
            for whether in (is_name, is_worth, is_manner, is_table):
                before = repr(thing)
                self.tells_truth(whether(thing), False)
                self.assertEqual(repr(thing), before)


class FoldedTest(SoundTest):
    def test_worths_stay_as_they_are(self):
        for manner in MANNERS:
            for number in range(-2048, 2048):
                self.assertEqual(folded(number, manner), number)
                self.tells_truth(is_folded(number, manner), False)

    def test_clip(self):
        for number, wanted in ((2048, 2047), (2049, 2047), (-2049, -2048), (HUGE, 2047), (-HUGE, -2048)):
            self.assertEqual(folded(number, "clip"), wanted)
            self.tells_truth(is_folded(number, "clip"), True)

    def test_wrap(self):
        for number, wanted in ((2048, -2048), (2049, -2047), (-2049, 2047), (4096, 0), (-4096, 0), (6144, -2048),
                               (6143, 2047), (-6144, -2048), (-6145, 2047)):
            self.assertEqual(folded(number, "wrap"), wanted)
            self.tells_truth(is_folded(number, "wrap"), True)
        for number in list(range(-13000, 13000, 7)) + [HUGE, -HUGE, HUGE - 4095]:
            worth = folded(number, "wrap")
            self.assertTrue(-2048 <= worth <= 2047)
            self.assertEqual((number - worth) % 4096, 0)

    def test_fold_at_its_turns(self):
        for number, wanted in ((2047, 2047), (2048, 2047), (2049, 2046), (-2048, -2048), (-2049, -2048),
                               (-2050, -2047), (6143, -2048), (6144, -2048), (6145, -2047), (-6144, 2047),
                               (-6145, 2047), (-6146, 2046), (8192, 0), (-8192, 0)):
            self.assertEqual(folded(number, "fold"), wanted)

    def test_fold_walks_on_again_and_again(self):
        for number, wanted in enumerate(walked(20000)):
            self.assertEqual(folded(number, "fold"), wanted)
            # Below 0 all is the mirror of what is above it, moved by one.
            self.assertEqual(folded(-1 - number, "fold"), -1 - wanted)
            self.tells_truth(is_folded(number, "fold"), number > 2047)

    def test_fold_of_thirty_figures(self):
        turns = HUGE // 8192
        self.assertEqual(folded(turns * 8192 + 5, "fold"), 5)
        self.assertEqual(folded(turns * 8192 + 2049, "fold"), 2046)
        self.assertEqual(folded(5 - turns * 8192, "fold"), 5)
        for number in (HUGE, -HUGE):
            self.assertEqual(folded(number, "fold"), folded(number % 8192, "fold"))

    def test_arguments_by_name(self):
        self.assertEqual(folded(number=5000, manner="wrap"), 904)
        self.tells_truth(is_folded(manner="clip", number=5000), True)

    def test_refusals(self):
        for deed in (folded, is_folded):
            for thing in any_things():
                if not isinstance(thing, int) or isinstance(thing, bool):
                    self.refused(NoNumber, thing, deed, thing, "clip")
                    self.refused(NoNumber, thing, deed, thing, thing)
                    self.refused(NoNumber, thing, deed, manner=None, number=thing)
                self.refused(NoManner, thing, deed, 0, thing)
                self.refused(NoManner, thing, deed, 9999, thing)
            for manner in ("saw", "clipp", "CLIP"):
                self.refused(NoManner, manner, deed, 1, manner)


class TablesTest(SoundTest):
    def test_saw(self):
        self.assertEqual([table_worth("saw", k) for k in range(64)], list(range(-2048, 2048, 64)))

    def test_square(self):
        self.assertEqual([table_worth("square", k) for k in range(64)], [2047] * 32 + [-2048] * 32)

    def test_tri(self):
        wanted = list(range(-2048, 2048, 128)) + list(range(2047, -2048, -128))
        self.assertEqual([table_worth("tri", k) for k in range(64)], wanted)
        self.assertEqual([table_worth("tri", k) for k in (31, 32, 63)], [1920, 2047, -1921])

    def test_pulse(self):
        self.assertEqual([table_worth("pulse", k) for k in range(64)], [2047] * 8 + [-2048] * 56)

    def test_hump(self):
        wanted = [min(2047, 2048 - 8 * (k - 16) ** 2) for k in range(32)]
        wanted += [8 * (k - 48) ** 2 - 2048 for k in range(32, 64)]
        self.assertEqual([table_worth("hump", k) for k in range(64)], wanted)
        self.assertEqual([table_worth("hump", k) for k in (0, 1, 15, 16, 17, 31, 32, 33, 48, 63)],
                         [0, 248, 2040, 2047, 2040, 248, 0, -248, -2048, -248])

    def test_all_are_worths(self):
        for table in TABLES:
            for place in range(64):
                self.assertTrue(is_worth(table_worth(table, place)))
        self.assertEqual(table_worth(place=1, table="saw"), -1984)

    def test_refusals(self):
        for thing in any_things():
            self.refused(NoTable, thing, table_worth, thing, 0)
            self.refused(NoTable, thing, table_worth, thing, thing)
            self.refused(NoNumber, thing, table_worth, "saw", thing)
        for table in TABLES:
            for place in (-1, 64, HUGE, -HUGE):
                self.refused(NoNumber, place, table_worth, table, place)
        self.refused(NoTable, "clip", table_worth, place=-1, table="clip")


class NoiseTest(SoundTest):
    def test_next_states(self):
        for state in range(4096):
            self.assertEqual(next_noise(state), (1229 * state + 351) % 4096)
        self.assertEqual([next_noise(0), next_noise(1), next_noise(4095)], [351, 1580, 3218])
        self.assertEqual(next_noise(state=2), 2809)

    def test_states_come_round_only_when_all_have_been(self):
        state, been = 0, set()
        for _ in range(4096):
            been.add(state)
            state = next_noise(state)
        self.assertEqual((len(been), state), (4096, 0))

    def test_refusals(self):
        for thing in any_things() + [-1, 4096]:
            self.refused(NoNumber, thing, next_noise, thing)


if __name__ == "__main__":
    unittest.main()
