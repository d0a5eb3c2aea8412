"""Points 111, 112, 113: the texts of Patches and Songs, written and read."""

import random
import unittest

from cordsounds.errors import NoOut, NoPart, NoPatch, NoPort, NoSong, NoText, NotThere, Ring, Taken, Twice
from cordsounds.patch import Patch
from cordsounds.songs import Song
from cordsounds.texts import patch_text, read_patch, read_song, song_text
from patches import LOUD, VOICE, lists_of, random_patches
from rows import NO_NUMBERS, RowTest, loose, no_texts
from songlists import SONG, random_song
from things import PARTS, any_things

VOICE_TEXT = """part echo delay 3
part sum mix 256,128 clip
part tone wave saw 64
part gain shape 1000 500 300 200
part loud times wrap
part key from gate
cord sum echo in
cord loud sum a
cord echo sum b
cord tone loud a
cord gain loud b
cord key gain gate
out main sum
out dry loud"""
SONG_TEXT = "pattern a 48:60:1000 24:-:5\npattern b 48:62:700\nrow a b\ntempo 0 10\ntempo 96 20"
PART_TEXTS = {
    "from": "from left", "wave": "wave saw 100", "slow": "slow tri 100", "noise": "noise 7",
    "shape": "shape 1000 500 300 200", "taps": "taps 64,-128,256 clip", "mix": "mix 256,-256 wrap",
    "times": "times fold", "delay": "delay 3", "follow": "follow 10"}


class PatchTextTest(RowTest):
    def test_some(self):
        self.assertEqual(patch_text(patch=Patch(*VOICE)), VOICE_TEXT)
        self.assertEqual(lists_of(read_patch(text=VOICE_TEXT)), VOICE)
        taps = Patch([("low", ("taps", (64, -128, 64), "clip"))], [], [("o", "low")])
        self.assertEqual(patch_text(taps), "part low taps 64,-128,64 clip\nout o low")
        self.assertEqual(patch_text(Patch(*LOUD)).split("\n")[-2:], ["out one near", "out two far"])

    def test_each_kind_of_part(self):
        for kind, part in PARTS.items():
            patch = Patch([("it", part)], [], [("o", "it")])
            self.assertEqual(patch_text(patch), f"part it {PART_TEXTS[kind]}\nout o it")
            self.assertEqual(lists_of(read_patch(patch_text(patch))), lists_of(patch))

    def test_at_the_bounds(self):
        for part in (("taps", (-256,), "clip"), ("taps", (256,) * 8, "fold"), ("mix", (0,) * 4, "wrap"), ("noise", 4095),
                     ("wave", "hump", 0), ("slow", "pulse", 2048), ("shape", 1, 2047, 0, 2047), ("delay", 64),
                     ("from", "abcdefgh"), ("from", "from")):
            patch = Patch([("part", part)], [], [("out", "part")])
            self.assertEqual(lists_of(read_patch(patch_text(patch))), lists_of(patch))

    def test_read_as_it_was_written(self):
        for chance, lists in random_patches(112, 200):
            text = patch_text(Patch(*lists))
            self.assertEqual(lists_of(read_patch(text)), tuple(list(row) for row in lists))
            self.assertEqual(patch_text(read_patch(text)), text)
            self.assertEqual(lists_of(read_patch(loose(chance, text)[0])), lists_of(read_patch(text)))

    def test_however_they_stand_among_others(self):
        for chance, lists in random_patches(113, 100):
            rows = patch_text(Patch(*lists)).split("\n")
            places = [row.split(" ")[0] for row in rows]
            chance.shuffle(places)
            left = {word: [row for row in rows if row.startswith(word)] for word in ("part", "cord", "out")}
            text = "\n".join(left[word].pop(0) for word in places)
            self.assertEqual(lists_of(read_patch(text)), tuple(list(row) for row in lists))

    def test_refused_of_what_is_no_text(self):
        for thing in no_texts():
            self.refused(NoText, thing, read_patch, thing)
        for thing in any_things() + [VOICE, VOICE_TEXT]:
            if not isinstance(thing, Patch):
                self.refused(NoPatch, thing, patch_text, thing)

    def test_at_most_30000_signs(self):
        text = VOICE_TEXT + " " * (30000 - len(VOICE_TEXT))
        self.assertEqual(lists_of(read_patch(text)), VOICE)
        for longer in (text + " ", "x" * 30001):
            self.refused(NoText, longer, read_patch, longer)
        self.no_row(0, read_patch, "x" * 30000)

    def test_rows_that_are_none(self):
        rows = ["x", "Part a noise 1", "parts a noise 1", "part", "part a", "part a x", "part a noise", "part a noise 1 1",
                "part A noise 1", "part abcdefghi noise 1", "part a1 noise 1", "part a Noise 1", "part noise 1",
                "part a from", "part a from A", "part a from x x", "part a from 1", "part a wave saw", "part a wave sow 1",
                "part a wave 1 saw", "part a wave saw 2049", "part a wave saw -1", "part a slow saw 1 1", "part a slow saw",
                "part a noise -1", "part a noise 4096", "part a shape 1 1 1", "part a shape 1 1 1 1 1", "part a shape 0 1 1 1",
                "part a shape 1 1 2048 1", "part a taps clip", "part a taps 1", "part a taps 1 clop", "part a taps , clip",
                "part a taps 1, clip", "part a taps ,1 clip", "part a taps 1,,1 clip", "part a taps 1, 1 clip",
                "part a taps 1,1,1,1,1,1,1,1,1 clip", "part a taps 257 clip", "part a taps clip 1", "part a mix 1,1,1,1,1 clip",
                "part a mix -257 clip", "part a mix 1;1 clip", "part a mix () clip", "part a times", "part a times clip clip",
                "part a times 1", "part a delay", "part a delay 0", "part a delay 65", "part a follow 0", "part a follow 2048",
                "cord", "cord a b", "cord a b in in", "cord A b in", "cord a b In", "cord a 1 in", "cord a b abcdefghi",
                "out", "out a", "out a b c", "out A b", "out a B", "out a 1", "out o, a", "row a", "tempo 0 1", "-", "/",
                "taps", "in a b c", "a part noise 1"]
        for number in NO_NUMBERS:
            rows.extend([f"part a noise {number}", f"part a taps 1,{number} clip", f"part a mix {number} clip",
                         f"part a shape 1 1 {number} 1", f"part a wave saw {number}", f"part a delay {number}"])
        for row in rows:
            for text in (row, row + "\n" + VOICE_TEXT, row + "\nx\n" + row):
                self.no_row(0, read_patch, text)
            self.no_row(14, read_patch, VOICE_TEXT + "\n  " + row + " ")
            self.no_row(3, read_patch, "\n  \npart z noise 1\n" + row + "\nx")

    def test_the_first_wrong_row_all_rows_counted(self):
        for chance, lists in random_patches(114, 100):
            text, numbers = loose(chance, patch_text(Patch(*lists)))
            rows = text.split("\n")
            wrong = sorted(chance.sample(numbers, chance.randint(1, min(3, len(numbers)))))
            for at in wrong:
                rows[at] = chance.choice(["no", rows[at] + " more", "part", rows[at].lstrip().upper()])
            self.no_row(wrong[0], read_patch, "\n".join(rows))

    def test_a_number_beyond_its_bounds_goes_ahead_of_lists_that_are_none(self):
        self.no_row(1, read_patch, "part a noise 1\npart a noise 4096")

    def test_refused_as_a_patch(self):
        for text in ("", "\n", "  \n  ", "out o a", "cord a b in"):
            self.refused_of(NoPart, [], read_patch, text)
        names = [name * 2 for name in "abcdefghijklm"]
        many = "\n".join(f"part {name} noise 1" for name in names)
        self.refused_of(NoPart, [(name, ("noise", 1)) for name in names], read_patch, many + "\nout o aa")
        self.refused_of(Twice, "a", read_patch, "part a noise 1\npart a noise 2\nout o a")
        self.refused_of(NoOut, [], read_patch, "part a noise 1")
        outs = [(name, "a") for name in "vwxyz"]
        self.refused_of(NoOut, outs, read_patch, "part a noise 1\n" + "\n".join(f"out {name} a" for name, _ in outs))
        self.refused_of(NotThere, "b", read_patch, "part a noise 1\nout o b")
        self.refused_of(NotThere, "b", read_patch, "cord b a in\npart a delay 1\nout o a")
        self.refused_of(NoPort, ("a", "b"), read_patch, "part a delay 1\ncord a a b\nout o a")
        self.refused_of(Taken, ("a", "in"), read_patch, "part a delay 1\ncord a a in\ncord a a in\nout o a")
        self.refused_of(Ring, ["a"], read_patch, "part a follow 1\ncord a a in\nout o a")
        self.refused_of(Twice, "o", read_patch, "part a follow 1\nout o a\nout o a")


class SongTextTest(RowTest):
    def test_some(self):
        self.assertEqual(song_text(song=Song(*SONG)), SONG_TEXT)
        self.assertEqual(read_song(text=SONG_TEXT), Song(*SONG))

    def same(self, song, other):
        self.assertEqual((list(song.patterns().items()), song.row(), song.tempos()),
                         (list(other.patterns().items()), other.row(), other.tempos()))

    def test_read_as_it_was_written(self):
        for at in range(200):
            chance = random.Random(at)
            song = Song(*random_song(chance, 1 + at % 8))
            text = song_text(song)
            self.same(read_song(text), song)
            self.assertEqual(song_text(read_song(text)), text)
            self.same(read_song(loose(chance, text)[0]), song)

    def test_however_they_stand_among_others(self):
        for at in range(100):
            chance = random.Random(at)
            song = Song(*random_song(chance))
            rows = song_text(song).split("\n")
            places = [row.split(" ")[0] for row in rows]
            chance.shuffle(places)
            left = {word: [row for row in rows if row.startswith(word)] for word in ("pattern", "row", "tempo")}
            self.same(read_song("\n".join(left[word].pop(0) for word in places)), song)

    def test_at_the_bounds(self):
        names = ["a", "b", "c", "d", "e", "f", "g", "abcdefgh"]
        song = Song({name: [(1, 0, 1), (960, 127, 2047), (960, None, 2047)] + [(1, None, 1)] * 13 for name in names}, names * 2,
                    [(0, 1)] + [(20000 - at, 960) for at in range(7)][::-1])
        self.same(read_song(song_text(song)), song)
        row = Song({"row": [(1, 1, 1)], "pattern": [(2, 2, 2)], "tempo": [(3, 3, 3)]}, ["row", "tempo"], [(0, 1)])
        self.same(read_song(song_text(row)), row)

    def test_refused_of_what_is_no_text(self):
        for thing in no_texts():
            self.refused(NoText, thing, read_song, thing)
        for thing in any_things() + [SONG, SONG_TEXT]:
            if not isinstance(thing, Song):
                self.refused(NoSong, thing, song_text, thing)
        text = SONG_TEXT + "\n" * (30000 - len(SONG_TEXT))
        self.assertEqual(read_song(text), Song(*SONG))
        longer = text + "\n"
        self.refused(NoText, longer, read_song, longer)

    def test_rows_that_are_none(self):
        rows = ["x", "patterns c 1:1:1", "Pattern c 1:1:1", "pattern", "pattern C", "pattern c1 1:1:1", "pattern abcdefghi",
                "pattern 1:1:1", "pattern c 0:1:1", "pattern c 961:1:1", "pattern c 1:-1:1", "pattern c 1:128:1",
                "pattern c 1:1:0", "pattern c 1:1:2048", "pattern c 1:1", "pattern c 1:1:1:1", "pattern c 1::1",
                "pattern c :1:1", "pattern c 1:1:", "pattern c ::", "pattern c -:1:1", "pattern c 1:1:-", "pattern c 1:--:1",
                "pattern c 1:None:1", "pattern c 1: 1:1", "pattern c 1:1:1 1:1:1,", "pattern c -", "pattern c 1:1:1 c",
                "pattern a", "pattern a 1:1:1", "pattern b 48:62:700", "row A", "row a B", "row 1", "row a, b", "row a -",
                "row abcdefghi", "rows", "tempo", "tempo 0", "tempo 0 1 1", "tempo -1 5", "tempo 5 0", "tempo 5 961", "tempo - 5",
                "tempo 5 -", "tempo a 5", "part a noise 1", "-", "/"]
        for number in NO_NUMBERS:
            rows.extend([f"tempo {number} 5", f"tempo 5 {number}", f"pattern c {number}:1:1", f"pattern c 1:1:{number}",
                         f"pattern c 1:1:1 1:{number}:1"] if number != "-" else [])
        for row in rows:
            self.no_row(5, read_song, SONG_TEXT + "\n" + row)
            self.no_row(8, read_song, "\n  \n" + SONG_TEXT + "\n\n" + row + "\nx")
            if row not in ("pattern a", "pattern a 1:1:1", "pattern b 48:62:700"):
                self.no_row(0, read_song, row + "\n" + SONG_TEXT)

    def test_a_second_row(self):
        for rows in ("row a\nrow a", "row\nrow a", "row a\nrow", "row\nrow", "row a\n\nrow A"):
            text = "pattern a 1:1:1\ntempo 0 1\n" + rows
            self.no_row(len(text.split("\n")) - 1, read_song, text)

    def test_the_first_wrong_row_all_rows_counted(self):
        for at in range(100):
            chance = random.Random(at)
            text, numbers = loose(chance, song_text(Song(*random_song(chance))))
            rows = text.split("\n")
            wrong = sorted(chance.sample(numbers, chance.randint(1, min(3, len(numbers)))))
            for place in wrong:
                rows[place] = chance.choice(["no", rows[place] + " 0", "pattern", rows[place].lstrip().upper()])
            self.no_row(wrong[0], read_song, "\n".join(rows))

    def test_refused_as_a_song(self):
        a, tempo = "pattern a 1:1:1\n", "tempo 0 1\n"
        for text in ("", "\n \n", tempo + "row a"):
            self.refused_of(NoSong, {}, read_song, text)
        self.refused_of(NoSong, {"a": []}, read_song, "pattern a\nrow a\n" + tempo)
        self.refused_of(NoSong, {"a": [(1, 1, 1)], "b": []}, read_song, a + "row a\n" + tempo + "pattern b")
        long = [(1, None, 1)] * 17
        self.refused_of(NoSong, {"a": long}, read_song, "pattern a" + " 1:-:1" * 17 + "\nrow a\n" + tempo)
        nine = "".join(f"pattern {name} 1:1:1\n" for name in "abcdefghi")
        self.refused_of(NoSong, {name: [(1, 1, 1)] for name in "abcdefghi"}, read_song, nine + "row a\n" + tempo)
        for text in (a + tempo, a + tempo + "row", "row\n" + a + tempo, a):
            self.refused_of(NoSong, [], read_song, text)
        self.refused_of(NoSong, ["a", "b"], read_song, a + tempo + "row a b")
        self.refused_of(NoSong, ["a"] * 17, read_song, a + tempo + "row" + " a" * 17)
        self.refused_of(NoSong, [], read_song, a + "row a")
        for ticks in ((1,), (0, 20001), (0, 0), (0, 5, 3), (0, 10 ** 30 - 1)):
            rows = "".join(f"tempo {tick} 5\n" for tick in ticks)
            self.refused_of(NoSong, [(tick, 5) for tick in ticks], read_song, rows + a + "row a")
        rows = "".join(f"tempo {tick} 5\n" for tick in range(9))
        self.refused_of(NoSong, [(tick, 5) for tick in range(9)], read_song, rows + a + "row a")
        self.assertEqual(read_song("tempo 0 5\ntempo 20000 5\nrow a\n" + a).tempos(), [(0, 5), (20000, 5)])


if __name__ == "__main__":
    unittest.main()
