"""Points 81, 82, 83, 84: Songs, their patterns, tempos, notes and deeds."""

import random
import unittest

from cordsounds.errors import NoKey, NoName, NoNumber, NoSong
from cordsounds.songs import Song, is_pattern, moved, stretched
from choirmodel import SongModel
from songlists import SONG, random_song, random_step, random_tempos
from things import HUGE, SoundTest, any_things

STEP = (48, 60, 1024)
NO_STEPS = [(0, 60, 1), (961, 60, 1), (-1, 60, 1), (True, 60, 1), (48, -1, 1), (48, 128, 1), (48, True, 1), (48, "60", 1),
            (48, 60, 0), (48, 60, 2048), (48, 60, None), (48, 60, True), (48, None, 0), (None, 60, 1), (48, 60),
            (48, 60, 1, 1), [48, 60, 1], (HUGE, 60, 1), (48, HUGE, 1), (48, 60, -HUGE), (48, "-", 1), (48, [60], 1)]


def threes(song):
    return song.patterns(), song.row(), song.tempos()


def no_patterns():
    """Any things that are no pattern, and some that nearly are."""
    found = any_things() + [STEP, (STEP,) * 17, [STEP] * 17, {0: STEP}, [STEP, None], [[STEP]]]
    for step in NO_STEPS:
        found.extend([[step], [STEP, step], (step, STEP), [STEP] * 15 + [step]])
    return found


class MadeTest(SoundTest):
    def test_tells_its_three(self):
        for at in range(120):
            lists = random_song(random.Random(at), 1 + at % 8)
            song = Song(*lists)
            self.assertEqual(threes(song), lists)
            self.assertEqual(list(song.patterns()), list(lists[0]))
            self.assertEqual(song.ticks(), sum(step[0] for name in lists[1] for step in lists[0][name]))

    def test_of_tuples_too(self):
        song = Song(patterns={"a": (STEP, STEP), "b": [STEP]}, row=("a", "b"), tempos=((0, 5), (7, 8)))
        self.assertEqual(threes(song), ({"a": [STEP, STEP], "b": [STEP]}, ["a", "b"], [(0, 5), (7, 8)]))

    def test_at_each_bound(self):
        for step in ((1, 0, 1), (960, 127, 2047), (960, None, 2047), (1, None, 1)):
            Song({"a": [step]}, ["a"], [(0, 1)])
        names = ["a", "b", "c", "d", "e", "f", "g", "abcdefgh"]
        Song({name: [STEP] * 16 for name in names}, names * 2, [(0, 1)] + [(20000 - at, 960) for at in range(7)][::-1])
        Song({"a": [STEP]}, ["a"] * 16, [(0, 960)])

    def test_no_patterns(self):
        row, tempos = ["a"], [(0, 1)]
        for thing in any_things():
            self.refused(NoSong, thing, Song, thing, row, tempos)
            self.refused(NoSong, thing, Song, thing, thing, thing)
        for name in ["", "A", "abcdefghi", "a1", 1, None, ("a",), True, "x y"]:
            patterns = {"a": [STEP], name: [STEP]}
            self.refused(NoSong, patterns, Song, patterns, row, tempos)
        for thing in no_patterns():
            for patterns in ({"a": thing}, {"a": [STEP], "b": thing}, {"b": thing, "a": [STEP]}):
                self.refused(NoSong, patterns, Song, patterns, row, tempos)
                self.refused(NoSong, patterns, Song, patterns, None, None)
        nine = {name: [STEP] for name in "abcdefghi"}
        self.refused(NoSong, nine, Song, nine, row, tempos)

    def test_no_row(self):
        patterns, tempos = {"a": [STEP], "b": [STEP]}, [(0, 1)]
        for thing in any_things() + ["a", {"a": "a"}, ["a"] * 17, ("a",) * 17]:
            self.refused(NoSong, thing, Song, patterns, thing, tempos)
            self.refused(NoSong, thing, Song, patterns, thing, thing)
        for thing in any_things() + ["c", "aa", "A", ["a"], ("a",)]:
            for row in ([thing], ["a", "b", thing], (thing, "a"), ["a"] * 15 + [thing]):
                self.refused(NoSong, row, Song, patterns, row, tempos)

    def test_no_tempos(self):
        patterns, row = {"a": [STEP]}, ["a"]
        for thing in any_things() + [(0, 1), {0: 1}, [(0, 1)] + [(at, 1) for at in range(1, 9)]]:
            self.refused(NoSong, thing, Song, patterns, row, thing)
        for thing in any_things() + [(5,), (5, 1, 1), [5, 1], (-1, 1), (20001, 1), (HUGE, 1), (5, 0), (5, 961), (5, -1),
                                     (True, 1), (5, True), (None, 1), (5, None), ("5", 1), (5, "1")]:
            for tempos in ([thing], [(0, 1), thing], ((0, 1), (1, 1), thing), [thing, (0, 1)]):
                self.refused(NoSong, tempos, Song, patterns, row, tempos)
        for ticks in ((1,), (0, 0), (0, 5, 5), (0, 6, 5), (5, 0), (0, 1, 2, 2), (0, 20000, 20000)):
            tempos = [(tick, 1) for tick in ticks]
            self.refused(NoSong, tempos, Song, patterns, row, tempos)

    def test_kept_as_copies_and_told_anew(self):
        steps, row, tempos = [STEP], ["a", "b"], [(0, 1)]
        patterns = {"a": steps, "b": steps}
        song = Song(patterns, row, tempos)
        steps.append(None)
        patterns["c"] = None
        row.append(None)
        tempos.append(None)
        wanted = ({"a": [STEP], "b": [STEP]}, ["a", "b"], [(0, 1)])
        self.assertEqual(threes(song), wanted)
        self.assertIsNot(song.patterns()["a"], song.patterns()["b"])
        told = song.patterns()
        told["a"].append(None)
        self.assertEqual(told["b"], [STEP])
        for thing in (song.patterns(), song.row(), song.tempos(), song.notes(), song.deeds()):
            thing.clear()
        self.assertEqual(threes(song), wanted)
        self.assertEqual((len(song.notes()), len(song.deeds())), (2, 4))


class TickTest(SoundTest):
    def test_each_tick_by_each_tempo(self):
        for at in range(60):
            chance = random.Random(at)
            tempos = random_tempos(chance, chance.choice([10, 300, 2000]))
            song, model = Song({"a": [STEP]}, ["a"], tempos), SongModel({"a": [STEP]}, ["a"], tempos)
            for tick in list(range(60)) + [chance.randint(0, 3000) for _ in range(60)]:
                self.assertEqual(song.sample_of(tick), model.sample_of(tick))

    def test_no_rest_is_lost(self):
        song = Song({"a": [STEP]}, ["a"], [(0, 7)])
        self.assertEqual([song.sample_of(tick) for tick in (0, 6, 7, 13, 14, 48, 480, 20000)],
                         [0, 0, 1, 1, 2, 7, 70, 7 * 20000 // 48])
        song = Song({"a": [STEP]}, ["a"], [(0, 1), (1, 46), (2, 1)])
        self.assertEqual([song.sample_of(tick=tick) for tick in (0, 1, 2, 3, 4)], [0, 0, 0, 1, 1])

    def test_at_its_bounds(self):
        song = Song({"a": [STEP]}, ["a"], [(0, 960), (19999, 1), (20000, 960)])
        self.assertEqual(song.sample_of(20000), (19999 * 960 + 1) // 48)
        for thing in any_things() + [-1, 20001, HUGE, -HUGE, "0"]:
            self.refused(NoNumber, thing, song.sample_of, thing)

    def test_more_ticks_than_may_be_asked_for(self):
        song = Song({"a": [(960, None, 1)] * 15 + [(960, 7, 5)]}, ["a"] * 16, [(0, 48), (20000, 96)])
        self.assertEqual(song.ticks(), 960 * 256)
        ends = [960 * 16 * at for at in range(1, 17)]
        samples = {tick: tick + max(0, tick - 20000) for end in ends for tick in (end - 960, end)}
        self.assertEqual(song.notes(), [(samples[end - 960], samples[end], 7, 5) for end in ends])


class NoteTest(SoundTest):
    def test_tells_what_the_model_tells(self):
        empty = 0
        for at in range(200):
            lists = random_song(random.Random(at))
            song, model = Song(*lists), SongModel(*lists)
            self.assertEqual(song.notes(), model.notes())
            self.assertEqual(song.deeds(), model.deeds())
            empty += any(note[0] == note[1] for note in song.notes())
        self.assertGreater(empty, 20)

    def test_by_a_tempo_that_changes_amid_a_step(self):
        song = Song(*SONG)
        self.assertEqual(song.ticks(), 120)
        self.assertEqual(song.notes(), [(0, 10, 60, 1000), (15, 30, 62, 700)])
        self.assertEqual(song.deeds(), [(0, "down", 60, 1000), (10, "up", 60, None), (15, "down", 62, 700),
                                        (30, "up", 62, None)])

    def test_rests_alone(self):
        song = Song({"a": [(48, None, 1)] * 3}, ["a"], [(0, 48)])
        self.assertEqual((song.notes(), song.deeds(), song.ticks()), ([], [], 144))

    def test_notes_of_no_sample(self):
        song = Song({"a": [(1, 1, 1), (1, 2, 2), (48, 3, 3), (1, 4, 4)]}, ["a"], [(0, 24)])
        self.assertEqual(song.notes(), [(0, 0, 1, 1), (0, 1, 2, 2), (1, 25, 3, 3), (25, 25, 4, 4)])
        self.assertEqual(song.deeds(), [(0, "down", 2, 2), (1, "up", 2, None), (1, "down", 3, 3), (25, "up", 3, None)])

    def test_the_same_key_again(self):
        song = Song({"a": [(48, 5, 1), (48, 5, 2)]}, ["a", "a"], [(0, 3)])
        self.assertEqual(song.deeds(), [(0, "down", 5, 1), (3, "up", 5, None), (3, "down", 5, 2), (6, "up", 5, None),
                                        (6, "down", 5, 1), (9, "up", 5, None), (9, "down", 5, 2), (12, "up", 5, None)])


class PatternTest(SoundTest):
    def test_is_pattern(self):
        chance = random.Random(1)
        for many in range(1, 17):
            steps = [random_step(chance, 960) for _ in range(many)]
            self.tells_truth(is_pattern(steps), True)
            self.tells_truth(is_pattern(thing=tuple(steps)), True)
        for step in ((1, 0, 1), (960, 127, 2047), (960, None, 1)):
            self.tells_truth(is_pattern([step]), True)
        for thing in no_patterns():
            self.tells_truth(is_pattern(thing), False)

    def test_moved_there_and_back(self):
        chance = random.Random(2)
        for _ in range(200):
            pattern = [random_step(chance) for _ in range(chance.randint(1, 16))]
            keys = [step[1] for step in pattern if step[1] is not None] or [64]
            by = chance.randint(-min(keys), 127 - max(keys))
            told = moved(pattern, by)
            self.assertIs(told.__class__, list)
            self.assertEqual(told, [(ticks, None if key is None else key + by, force) for ticks, key, force in pattern])
            self.assertEqual(moved(tuple(told), -by), pattern)

    def test_moved_at_the_edges(self):
        self.assertEqual(moved(pattern=[(1, 0, 1)], keys=127), [(1, 127, 1)])
        self.assertEqual(moved([(1, 127, 1), (2, None, 2)], -127), [(1, 0, 1), (2, None, 2)])
        rest = [(5, None, 1)]
        told = moved(rest, -127)
        self.assertEqual(told, rest)
        self.assertIsNot(told, rest)
        for pattern, keys, found in (([(1, 0, 1)], -1, -1), ([(1, 127, 1)], 1, 128), ([(1, 5, 1), (1, 100, 1)], 100, 200),
                                     ([(1, None, 1), (1, 99, 1), (1, 90, 1)], -100, -1)):
            self.refused_of(NoKey, found, moved, pattern, keys)

    def test_moved_refused(self):
        for thing in no_patterns():
            self.refused(NoSong, thing, moved, thing, 1)
            self.refused(NoSong, thing, moved, thing, None)
        for thing in any_things() + [-128, 128, "1", HUGE]:
            self.refused(NoNumber, thing, moved, [(1, 5, 1)], thing)
            self.refused(NoNumber, thing, moved, [(1, None, 1)], thing)

    def test_stretched(self):
        chance = random.Random(3)
        for _ in range(300):
            pattern = [random_step(chance) for _ in range(chance.randint(1, 16))]
            num, den = chance.randint(1, 8), chance.randint(1, 8)
            told = stretched(pattern, (num, den))
            ends = [sum(step[0] for step in pattern[:at]) * num // den for at in range(len(pattern) + 1)]
            wanted = [(end - begin, step[1], step[2]) for begin, end, step in zip(ends, ends[1:], pattern) if end > begin]
            self.assertEqual(told, wanted)
            back = stretched(pattern, (num, 1))
            if is_pattern(back):
                self.assertEqual(stretched(back, (1, num)), pattern)

    def test_stretched_at_the_edges(self):
        self.assertEqual(stretched(pattern=[(1, 5, 1), (1, 6, 2), (1, None, 3)], factor=(1, 2)), [(1, 6, 2)])
        self.assertEqual(stretched(((7, 5, 1), (7, 6, 2)), (1, 8)), [(1, 6, 2)])
        self.assertEqual(stretched([(7, 5, 1)], (1, 8)), [])
        self.assertEqual(stretched([(960, 5, 1)], (8, 1)), [(7680, 5, 1)])
        pattern = [(3, 5, 1), (4, None, 2)]
        told = stretched(pattern, (3, 3))
        self.assertEqual(told, pattern)
        self.assertIsNot(told, pattern)

    def test_stretched_refused(self):
        for thing in no_patterns():
            self.refused(NoSong, thing, stretched, thing, (1, 1))
            self.refused(NoSong, thing, stretched, thing, None)
        for thing in any_things() + [(0, 1), (1, 0), (9, 1), (1, 9), (-1, 1), (1, -1), (1,), (1, 1, 1), [1, 1], (True, 1),
                                     (1, True), (None, 1), (1, None), ("1", 1), (HUGE, 1), 2, (1, 0.5), ((1, 1), 1)]:
            self.refused(NoNumber, thing, stretched, [(4, 5, 1)], thing)


class OtherSongsTest(SoundTest):
    def test_with_tempos(self):
        song = Song(*SONG)
        other = song.with_tempos(tempos=((0, 48), (9, 1)))
        self.assertEqual(threes(other), (SONG[0], SONG[1], [(0, 48), (9, 1)]))
        self.assertEqual(threes(song), SONG)
        for thing in any_things() + [[(1, 1)], [(0, 0)], [(0, 1)] * 2, [(0, 1), (20001, 1)]]:
            self.refused(NoSong, thing, song.with_tempos, thing)

    def test_with_a_pattern_more(self):
        song = Song(*SONG)
        other = song.with_pattern(name="aa", pattern=(STEP,))
        self.assertEqual(list(other.patterns().items()), [*SONG[0].items(), ("aa", [STEP])])
        self.assertEqual((other.row(), other.tempos()), (SONG[1], SONG[2]))
        self.assertEqual(threes(song), SONG)

    def test_with_a_pattern_instead(self):
        other = Song(*SONG).with_pattern("a", [STEP] * 16)
        self.assertEqual(list(other.patterns().items()), [("a", [STEP] * 16), ("b", SONG[0]["b"])])

    def test_a_ninth_one(self):
        names = list("abcdefgh")
        song = Song({name: (STEP,) for name in names}, ["a"], [(0, 1)])
        wanted = {name: [STEP] for name in names + ["i"]}
        self.refused_of(NoSong, wanted, song.with_pattern, "i", (STEP,))
        try:
            song.with_pattern("i", (STEP,))
        except NoSong as refusal:
            self.assertEqual(list(refusal.found), names + ["i"])
        self.assertEqual(song.with_pattern("h", [(5, 5, 5)]).patterns()["h"], [(5, 5, 5)])

    def test_with_pattern_refused(self):
        song = Song(*SONG)
        for thing in any_things() + ["A", "a1"]:
            self.refused(NoName, thing, song.with_pattern, thing, [STEP])
            self.refused(NoName, thing, song.with_pattern, thing, None)
        for thing in no_patterns():
            for name in ("a", "c"):
                self.refused(NoSong, thing, song.with_pattern, name, thing)
        self.assertEqual(threes(song), SONG)


class EqualTest(SoundTest):
    def test_equal(self):
        for at in range(60):
            lists = random_song(random.Random(at))
            song, other = Song(*lists), Song(dict(list(lists[0].items())[::-1]), tuple(lists[1]), tuple(lists[2]))
            self.tells_truth(song == other, True)
            self.tells_truth(song != other, False)

    def test_unequal(self):
        song = Song(*SONG)
        others = [song.with_pattern("c", [STEP]), song.with_pattern("b", [STEP]), song.with_tempos([(0, 10)]),
                  Song(SONG[0], ["b", "a"], SONG[2]), Song(SONG[0], ["a"], SONG[2])]
        for thing in others + any_things() + [SONG, list(SONG)]:
            self.tells_truth(song == thing, False)
            self.tells_truth(thing == song, False)
            self.tells_truth(song != thing, True)


if __name__ == "__main__":
    unittest.main()
