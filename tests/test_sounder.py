"""Points 91, 92, 93, 94: Sounders, their deeds, logs and stands, and logs that are done again."""

import copy
import unittest

from cordsounds.choir import Choir
from cordsounds.errors import (
    NoCord, NoKey, NoList, NoName, NoNumber, NoPatch, NoPort, NoRow, NoSetting, NoSong, NoStand, NoTruth, NotThere, Over,
    Ring, Taken)
from cordsounds.parts import ports_of, settings_of
from cordsounds.patch import Patch
from cordsounds.songs import Song
from cordsounds.sounder import Sounder, replayed
from choirmodel import SounderModel
from patches import BARE, TONE, lists_of, of_voices, random_patches
from songlists import SONG, random_song
from things import HUGE, SoundTest, any_things


def all_of(sounder):
    """All that a Sounder tells."""
    choir = sounder.choir()
    return (lists_of(choir.patch()), choir.voices(), choir.time(), choir.foldings(), choir.stolen(), choir.stands(),
            sounder.time(), sounder.log(), sounder.stands(), sounder.recorded(), sounder.clipped(), sounder.song())


def patch_of(lists=TONE):
    return Patch(*lists)


class ChanceTest(SoundTest):
    """All deeds by chance, held against a model that knows nothing of Sounders."""

    def setUp(self):
        self.counts = dict.fromkeys(["press", "let_go", "pedal", "turn", "put_cord", "take_cord", "save", "lead",
                                     "put_back", "no stand", "clipped", "stolen"], 0)

    def deed(self, chance, sounder, model):
        """A word and its things, which aren't refused."""
        patch = sounder.choir().patch()
        turns = [(name, setting) for name, part in patch.parts() for setting in settings_of(part)]
        word = chance.choice(["press"] * 4 + ["let_go"] * 2 + ["pedal", "turn", "turn", "put_cord", "take_cord",
                                                              "save", "lead", "put_back"])
        if word == "press":
            return word, (chance.randint(58, 66), chance.randint(1, 2047))
        if word == "let_go":
            return word, (chance.randint(58, 66),)
        if word == "pedal":
            return word, (chance.random() < 0.5,)
        if word == "turn" and turns:
            return word, chance.choice(turns) + (chance.randint(1, 256), chance.choice([0, 1, 7, 30]))
        if word == "save":
            return word, (chance.choice("xyz"),)
        if word in ("lead", "put_back") and model.stands:
            name = chance.choice(list(model.stands))
            return word, (name, chance.choice([0, 5, 20, 400])) if word == "lead" else (name,)
        return self.cord(chance, patch, word)

    def cord(self, chance, patch, word):
        goal, part = chance.choice(patch.parts())
        for port in ports_of(part):
            if patch.start(goal, port) is not None:
                return "take_cord", (goal, port)
            start = chance.choice(patch.parts())[0]
            try:
                patch.with_cord((start, goal, port))
            except Ring:
                continue
            return "put_cord", (start, goal, port)
        return "pedal", (False,)

    def do(self, sounder, word, things):
        if word in ("turn", "lead"):
            return getattr(sounder, word)(*things[:-1], over=things[-1])
        return getattr(sounder, word)(*things)

    def test_tells_what_the_model_tells(self):
        for chance, lists in random_patches(91, 150):
            lists, many = of_voices(chance, lists), chance.randint(1, 6)
            song = random_song(chance) if chance.random() < 0.6 else None
            sounder = Sounder(Patch(*lists), many, song=None if song is None else Song(*song))
            model = SounderModel(lists, many, song)
            for _ in range(14):
                while chance.random() < 0.7:
                    self.one(chance, sounder, model)
                length = chance.choice([1, 1, 2, 5, 20])
                told = sounder.samples(length)
                self.assertEqual(list(told.items()), list(model.samples(length).items()))
                self.alike(sounder, model)
            self.again(lists, many, song, sounder)
            self.counts["clipped"] += len(model.clipped)
            self.counts["stolen"] += len(model.choir.stolen)
        for many in self.counts.values():
            self.assertGreater(many, 40)

    def one(self, chance, sounder, model):
        word, things = self.deed(chance, sounder, model)
        if word == "lead" and not model.cords_alike(things[0]):
            before = all_of(sounder)
            self.refused(NoStand, things[0], sounder.lead, things[0], over=things[1])
            self.assertEqual(all_of(sounder), before)
            self.counts["no stand"] += 1
        else:
            self.assertEqual(self.do(sounder, word, things), model.do(word, *things))
            self.counts[word] += 1
        self.alike(sounder, model)

    def alike(self, sounder, model):
        """Sees to it that a Sounder tells of itself what the model knows."""
        choir, told = sounder.choir(), model.choir
        self.assertEqual((sounder.time(), sounder.log(), sounder.stands()), (model.time, model.log, list(model.stands)))
        self.assertEqual(list(sounder.recorded().items()), list(model.rows.items()))
        clipped = {name: model.clipped[name] for name in model.rows if name in model.clipped}
        self.assertEqual(list(sounder.clipped().items()), list(clipped.items()))
        self.assertEqual((choir.time(), choir.voices(), choir.stolen(), choir.foldings(), choir.is_pedal_down()),
                         (told.time, told.voices(), told.stolen, told.foldings(), told.pedal_down))
        self.assertEqual((choir.patch().parts(), choir.patch().cords()), (list(told.parts.items()), told.cords))

    def again(self, lists, many, song, sounder):
        """Sees to it that a Sounder of the log's deeds records the same, and what came of them."""
        made = None if song is None else Song(*song)
        other = replayed(Patch(*lists), many, sounder.log(), sounder.time(), song=made)
        self.assertEqual(all_of(other), all_of(sounder))
        self.assertEqual(other.choir(), sounder.choir())
        self.assertEqual(list(other.recorded()), list(sounder.recorded()))


class NewTest(SoundTest):
    def test_new(self):
        song = Song(*SONG)
        sounder = Sounder(patch=patch_of(), many=3, song=song)
        self.assertEqual((sounder.time(), sounder.log(), sounder.stands(), sounder.clipped()), (0, [], [], {}))
        self.assertEqual(list(sounder.recorded().items()), [("left", []), ("right", [])])
        self.assertEqual((sounder.song(), sounder.choir()), (song, Choir(patch_of(), 3)))
        self.assertIsNone(Sounder(patch_of(), 1).song())
        self.assertIsNone(Sounder(patch_of(), 1, song=None).song())
        with self.assertRaises(TypeError):
            Sounder(patch_of(), 1, song, song)

    def test_refused(self):
        for thing in any_things() + [TONE]:
            if not isinstance(thing, Patch):
                self.refused(NoPatch, thing, Sounder, thing, thing, song=thing)
        for thing in any_things() + [0, 7, "1"]:
            self.refused(NoNumber, thing, Sounder, patch_of(), thing, song=thing)
        for thing in any_things() + [SONG]:
            if thing is not None and not isinstance(thing, Song):
                self.refused(NoSong, thing, Sounder, patch_of(), 1, song=thing)

    def test_what_is_told_is_new(self):
        sounder = Sounder(patch_of(BARE), 3, song=Song(*SONG))
        for key in (125, 126, 127):
            sounder.press(key, 2000)
        sounder.save("a")
        told = sounder.samples(2)
        before = copy.deepcopy(all_of(sounder))
        for thing in (told, sounder.recorded()):
            for row in thing.values():
                row.append("other")
            thing.clear()
        for thing in (sounder.log(), sounder.stands(), sounder.clipped()):
            self.assertTrue(thing)
            thing.clear()
        choir = sounder.choir()
        choir.press(1)
        choir.sample()
        self.assertEqual(all_of(sounder), before)


class SamplesTest(SoundTest):
    def test_at_most_600(self):
        sounder = Sounder(patch_of(BARE), 1)
        self.assertEqual(sounder.samples(many=599), {name: [0] * 599 for name in ("gate", "pitch", "force", "knob")})
        self.refused_of(Over, 599, sounder.samples, 2)
        self.refused_of(Over, 599, sounder.samples, 600)
        self.assertEqual(sounder.time(), 599)
        sounder.samples(1)
        self.refused_of(Over, 600, sounder.samples, 1)
        self.refused(NoNumber, 601, sounder.samples, 601)
        self.assertEqual(len(sounder.recorded()["gate"]), 600)
        Sounder(patch_of(BARE), 1).samples(600)

    def test_refused(self):
        sounder = Sounder(patch_of(), 2, song=Song(*SONG))
        sounder.samples(3)
        before = all_of(sounder)
        for thing in any_things() + [0, -1, 601, HUGE, "1"]:
            self.refused(NoNumber, thing, sounder.samples, thing)
        self.assertEqual(all_of(sounder), before)

    def test_cut_anywhere(self):
        for chance, lists in random_patches(92, 24):
            lists = of_voices(chance, lists)
            song = Song(*random_song(chance))
            one, other = [Sounder(Patch(*lists), 3, song=song) for _ in range(2)]
            told = one.samples(60)
            rows = {name: [] for name in told}
            for length in (1, 9, 20, 30):
                for name, row in other.samples(length).items():
                    rows[name].extend(row)
            self.assertEqual((rows, other.recorded()), (told, one.recorded()))
            self.assertEqual(one.choir(), other.choir())


class SongTest(SoundTest):
    def test_what_the_song_does(self):
        sounder = Sounder(patch_of(BARE), 2, song=Song(*SONG))
        told = sounder.samples(40)
        gates = [1] * 10 + [0] * 5 + [1] * 15 + [0] * 10
        self.assertEqual(told["gate"], gates)
        self.assertEqual(told["force"], [1000] * 15 + [1700] * 25)
        self.assertEqual((sounder.log(), sounder.choir().voices()), ([], [(60, "free"), (62, "free")]))

    def test_behind_what_hands_do(self):
        # Both press at sample 0; the Song's key comes behind and steals the only voice.
        sounder = Sounder(patch_of(BARE), 1, song=Song(*SONG))
        sounder.press(99, 7)
        self.assertEqual(sounder.samples(1)["force"], [1000])
        self.assertEqual(sounder.choir().stolen(), [(0, 0, 99)])
        sounder.samples(9)
        sounder.press(60, 5)
        self.assertEqual(sounder.samples(1)["gate"], [0])

    def test_of_the_next_sample_first_then(self):
        sounder = Sounder(patch_of(BARE), 1, song=Song(*SONG))
        self.assertEqual(sounder.choir().voices(), [(None, "free")])
        sounder.samples(10)
        self.assertEqual(sounder.choir().voices(), [(60, "down")])
        self.assertEqual(sounder.let_go(60), 0)
        sounder.samples(1)
        self.assertEqual(sounder.choir().voices(), [(60, "free")])

    def test_goes_on_by_the_sounders_time(self):
        sounder = Sounder(patch_of(BARE), 2, song=Song(*SONG))
        sounder.save("a")
        sounder.samples(12)
        sounder.put_back("a")
        self.assertEqual((sounder.time(), sounder.choir().time()), (12, 0))
        self.assertEqual(sounder.samples(4)["force"], [0, 0, 0, 700])
        self.assertEqual(sounder.choir().voices(), [(62, "down"), (None, "free")])


class DeedTest(SoundTest):
    def test_the_log(self):
        sounder = Sounder(patch_of(), 2)
        self.assertEqual((sounder.press(60), sounder.press(61, 5), sounder.press(force=6, key=62)), (0, 1, 0))
        sounder.samples(4)
        self.assertEqual((sounder.let_go(61), sounder.let_go(99)), (1, None))
        self.assertIsNone(sounder.pedal(down=True))
        self.assertIsNone(sounder.turn("osc", "step", 5))
        self.assertIsNone(sounder.turn(name="osc", setting="step", number=9, over=7))
        self.assertIsNone(sounder.save(name="x"))
        self.assertIsNone(sounder.lead("x"))
        sounder.samples(1)
        self.assertIsNone(sounder.lead(name="x", over=400))
        self.assertIsNone(sounder.take_cord(goal="osc", port="pitch"))
        self.assertIsNone(sounder.put_cord(start="pit", goal="osc", port="pitch"))
        self.assertIsNone(sounder.put_back(name="x"))
        self.assertEqual(sounder.log(), [
            (0, "press", 60, 1024), (0, "press", 61, 5), (0, "press", 62, 6), (4, "let_go", 61), (4, "let_go", 99),
            (4, "pedal", True), (4, "turn", "osc", "step", 5, 0), (4, "turn", "osc", "step", 9, 7), (4, "save", "x"),
            (4, "lead", "x", 0), (5, "lead", "x", 400), (5, "take_cord", "osc", "pitch"),
            (5, "put_cord", "pit", "osc", "pitch"), (5, "put_back", "x")])

    def test_refused(self):
        sounder = Sounder(patch_of(), 2, song=Song(*SONG))
        sounder.press(60)
        sounder.turn("osc", "step", 900, over=40)
        sounder.save("a")
        sounder.samples(5)
        before = all_of(sounder)
        for thing in any_things():
            self.refused(NoKey, thing, sounder.press, thing, thing)
            self.refused(NoKey, thing, sounder.let_go, thing)
            self.refused(NoNumber, thing, sounder.press, 60, thing)
            self.refused(NotThere, thing, sounder.turn, thing, thing, thing, over=thing)
            self.refused(NoSetting, thing, sounder.turn, "osc", thing, thing, over=thing)
            self.refused_of(NoCord, (thing, "osc", "pitch"), sounder.put_cord, thing, "osc", "pitch")
            self.refused_of(NotThere, ("osc", thing), sounder.take_cord, "osc", thing)
            if not isinstance(thing, bool):
                self.refused(NoTruth, thing, sounder.pedal, thing)
        for key in (-1, 128):
            self.refused(NoKey, key, sounder.press, key)
            self.refused(NoKey, key, sounder.let_go, key)
        for force in (0, 2048):
            self.refused(NoNumber, force, sounder.press, 60, force)
        for thing in any_things() + [-1, 2049]:
            self.refused(NoNumber, thing, sounder.turn, "osc", "step", thing, over=thing)
        for thing in any_things() + [-1, 401]:
            self.refused(NoNumber, thing, sounder.turn, "osc", "step", 5, over=thing)
        self.refused(NotThere, "no", sounder.put_cord, "no", "osc", "pitch")
        self.refused_of(NoPort, ("osc", "in"), sounder.put_cord, "osc", "osc", "in")
        self.refused_of(Taken, ("osc", "pitch"), sounder.put_cord, "osc", "osc", "pitch")
        self.assertEqual(all_of(sounder), before)


class StandTest(SoundTest):
    def test_names_in_the_order_in_which_they_were_first_saved(self):
        sounder = Sounder(patch_of(), 1)
        for name in ("b", "a", "abcdefgh", "b", "a"):
            sounder.save(name)
        self.assertEqual(sounder.stands(), ["b", "a", "abcdefgh"])

    def test_put_back_twice(self):
        sounder = Sounder(patch_of(), 3)
        for key in (60, 61, 62, 63):
            sounder.press(key, 2047)
        sounder.turn("osc", "step", 900, over=30)
        sounder.samples(10)
        sounder.save("a")
        choir = sounder.choir()
        told = sounder.samples(50)
        for other in ("press", "more"):
            sounder.press(70)
            sounder.take_cord("amp", "b")
            sounder.turn("osc", "step", 5)
            sounder.samples(3)
            sounder.put_back("a")
            self.assertEqual(sounder.choir(), choir)
            self.assertEqual((sounder.choir().time(), sounder.choir().stolen(), sounder.choir().foldings()),
                             (choir.time(), choir.stolen(), choir.foldings()))
            self.assertEqual(sounder.samples(50), told)
        self.assertEqual(sounder.time(), 10 + 50 + 2 * 53)

    def test_what_stays(self):
        sounder = Sounder(patch_of(BARE), 2)
        sounder.save("a")
        sounder.press(127, 2047)
        sounder.press(126, 2047)
        sounder.samples(3)
        sounder.save("b")
        kept = sounder.recorded(), sounder.clipped(), sounder.time()
        self.assertEqual(sounder.clipped(), {"force": 0})
        sounder.put_back("a")
        self.assertEqual((sounder.recorded(), sounder.clipped(), sounder.time()), kept)
        self.assertEqual((sounder.stands(), len(sounder.log())), (["a", "b"], 5))
        self.assertEqual(sounder.samples(1)["force"], [0])

    def test_saved_anew_it_takes_the_elder_ones_place(self):
        sounder = Sounder(patch_of(BARE), 1)
        sounder.save("a")
        sounder.save("b")
        sounder.press(60, 77)
        sounder.save("a")
        self.assertEqual(sounder.stands(), ["a", "b"])
        sounder.put_back("b")
        self.assertEqual(sounder.samples(1)["force"], [0])
        sounder.put_back("a")
        self.assertEqual(sounder.samples(1)["force"], [77])

    def steps(self, sounder, many):
        """What the step of the sounding voice is at so many samples."""
        found = []
        for _ in range(many):
            sounder.samples(1)
            found.append(sounder.choir().lives()[0].patch().part("osc")[2])
        return found

    def test_led_to(self):
        sounder = Sounder(patch_of(), 1)
        sounder.press(60)
        sounder.save("a")
        sounder.turn("osc", "step", 200)
        sounder.turn("env", "up", 5)
        sounder.turn("mixed", "x1", -256)
        sounder.lead("a", over=4)
        self.assertEqual(sounder.choir().patch(), patch_of())
        live = sounder.choir().lives()[0]
        self.assertEqual(live.turning(), [("osc", "step", 100, 4), ("env", "up", 700, 4), ("mixed", "x1", 256, 4)])
        self.assertEqual(self.steps(sounder, 5), [175, 150, 125, 100, 100])
        sounder.turn("osc", "step", 300)
        sounder.lead("a")
        self.assertEqual(self.steps(sounder, 2), [100, 100])
        self.assertEqual(sounder.choir().voices(), [(60, "down")])

    def test_led_as_behind_all_turns(self):
        sounder = Sounder(patch_of(), 1)
        sounder.press(60)
        sounder.turn("osc", "step", 200, over=10)
        sounder.save("a")
        sounder.lead("a", over=2)
        # What is still turned to the stand's number isn't unlike it, so it goes on as it was.
        self.assertEqual(self.steps(sounder, 3), [110, 120, 130])
        sounder.turn("osc", "step", 330, over=20)
        sounder.lead("a", over=7)
        self.assertEqual(self.steps(sounder, 8), [140, 150, 160, 170, 180, 190, 200, 200])

    def test_led_where_the_cords_are_others(self):
        sounder = Sounder(patch_of(), 1)
        sounder.save("a")
        sounder.turn("osc", "step", 200)
        sounder.take_cord("osc", "pitch")
        sounder.save("b")
        before = all_of(sounder)
        name = "".join(["a"])
        self.refused(NoStand, name, sounder.lead, name)
        self.refused(NoStand, name, sounder.lead, name, over=400)
        self.refused_of(NoNumber, 401, sounder.lead, name, over=401)
        self.assertEqual(all_of(sounder), before)
        sounder.put_cord("gat", "osc", "pitch")
        self.refused(NoStand, name, sounder.lead, name)
        sounder.take_cord("osc", "pitch")
        sounder.put_cord("pit", "osc", "pitch")
        self.assertNotEqual(sounder.choir().patch().cords(), TONE[1])
        sounder.lead("a")
        self.assertEqual(sounder.choir().patch(), patch_of())
        self.refused(NoStand, "b", sounder.lead, "b")
        sounder.put_back("b")
        self.refused(NoStand, "a", sounder.lead, "a")
        sounder.lead("b")

    def test_refused(self):
        sounder = Sounder(patch_of(), 1)
        sounder.save("a")
        before = all_of(sounder)
        for thing in any_things() + ["A", "abcdefghi"]:
            self.refused(NoName, thing, sounder.save, thing)
        for thing in any_things() + ["b", "aa"]:
            self.refused(NotThere, thing, sounder.lead, thing)
            self.refused(NotThere, thing, sounder.lead, thing, over=thing)
            self.refused(NotThere, thing, sounder.put_back, thing)
        for thing in any_things() + [-1, 401, "1"]:
            self.refused(NoNumber, thing, sounder.lead, "a", over=thing)
        with self.assertRaises(TypeError):
            sounder.lead("a", 5)
        self.assertEqual(all_of(sounder), before)


class TellsTest(SoundTest):
    def test_clipped(self):
        sounder = Sounder(patch_of(BARE), 3)
        sounder.press(127, 1024)
        sounder.samples(2)
        sounder.press(126, 1024)
        self.assertEqual(sounder.clipped(), {})
        sounder.samples(1)
        self.assertEqual(sounder.clipped(), {"force": 2})
        sounder.press(125, 1024)
        sounder.samples(2)
        self.assertEqual(list(sounder.clipped().items()), [("pitch", 3), ("force", 2)])

    def test_a_twin_is_clipped_by_itself(self):
        sounder = Sounder(patch_of(BARE), 2)
        sounder.press(127)
        twin = sounder.twin()
        twin.press(126)
        twin.samples(1)
        self.assertEqual((twin.clipped(), sounder.clipped()), ({"force": 0}, {}))
        self.assertEqual((sounder.log(), len(twin.log())), ([(0, "press", 127, 1024)], 2))

    def test_twin(self):
        sounder = Sounder(patch_of(), 3, song=Song(*SONG))
        for key in (70, 71, 72, 73):
            sounder.press(key, 2047)
            sounder.turn("osc", "step", key, over=30)
            sounder.samples(3)
            sounder.save("a")
        twin, before = sounder.twin(), all_of(sounder)
        self.assertEqual(all_of(twin), before)
        for other in (twin, sounder.twin()):
            other.press(99)
            other.save("a")
            other.save("b")
            other.take_cord("amp", "a")
            other.samples(30)
            self.assertEqual(all_of(sounder), before)
        other = sounder.twin()
        for one in (other, sounder):
            one.samples(9)
            one.put_back("a")
            one.samples(30)
        self.assertEqual(all_of(other), all_of(sounder))


class ReplayedTest(SoundTest):
    ROW = (0, "press", 60, 1024)
    FIRST = [(0, "press", 60, 1024), (0, "save", "a"), (3, "turn", "osc", "step", 5, 0), (3, "pedal", True)]

    def test_no_deeds(self):
        for samples in (0, 1, 600):
            for log in ([], ()):
                sounder = replayed(patch=patch_of(), many=2, log=log, samples=samples, song=Song(*SONG))
                self.assertIs(sounder.__class__, Sounder)
                other = Sounder(patch_of(), 2, song=Song(*SONG))
                if samples:
                    other.samples(samples)
                self.assertEqual(all_of(sounder), all_of(other))

    def test_deeds_at_the_last_sample(self):
        sounder = replayed(patch_of(BARE), 1, [(0, "press", 60, 5), (600, "press", 61, 6)], 600)
        self.assertEqual((sounder.time(), sounder.choir().voices()), (600, [(61, "down")]))
        self.assertEqual(sounder.recorded()["force"], [5] * 600)
        self.assertEqual(sounder.log(), [(0, "press", 60, 5), (600, "press", 61, 6)])

    def test_refused_arguments(self):
        for thing in any_things():
            if not isinstance(thing, Patch):
                self.refused(NoPatch, thing, replayed, thing, thing, thing, thing, song=7)
            self.refused(NoNumber, thing, replayed, patch_of(), thing, thing, thing, song=7)
            if not isinstance(thing, (list, tuple)):
                self.refused(NoList, thing, replayed, patch_of(), 1, thing, thing, song=7)
            self.refused(NoNumber, thing, replayed, patch_of(), 1, [None], thing, song=7)
            if thing is not None and not isinstance(thing, Song):
                self.refused(NoSong, thing, replayed, patch_of(), 1, [None], 5, song=thing)
        for many in (0, 7):
            self.refused(NoNumber, many, replayed, patch_of(), many, None, None)
        for samples in (-1, 601, HUGE):
            self.refused(NoNumber, samples, replayed, patch_of(), 1, [None], samples)

    def no_row(self, at, log, samples=10):
        for rows in (log, tuple(log)):
            before = repr(rows)
            with self.assertRaises(NoRow) as caught:
                replayed(patch_of(), 2, rows, samples)
            self.assertEqual((caught.exception.at, caught.exception.__class__, repr(rows)), (at, NoRow, before))

    def test_rows_that_are_none(self):
        rows = any_things() + [
            list(self.ROW), (5, "press", 60), (5, "press", 60, 5, 5), (5, "press"), (5, "let_go"), (5, "let_go", 60, 5),
            (5, "pedal"), (5, "pedal", 1), (5, "pedal", None), (5, "turn", "osc", "step", 5),
            (5, "turn", "osc", "step", 5, 0, 0), (5, "put_cord", "pit", "osc"), (5, "take_cord", "osc"), (5, "save"),
            (5, "lead", "a"), (5, "put_back"), (5, "put_back", "a", 0), (5, "samples", 1), (5, "twin"), (5, "time"),
            (5, "Press", 60, 5), (5, 5, 60, 5), (5, ["press"], 60, 5), (5, {}, 60, 5), (5,), (True, "press", 60, 5),
            ("5", "press", 60, 5), (None, "press", 60, 5), (-1, "press", 60, 5), (HUGE, "press", 60, 5)]
        for row in rows:
            for at in (0, 2, 4):
                self.no_row(at, self.FIRST[:at] + [row] + self.FIRST[at:])

    def test_rows_that_are_refused(self):
        for row in [
                (3, "press", 128, 5), (3, "press", 60, 0), (3, "press", None, 5), (3, "let_go", -1), (3, "let_go", {}),
                (3, "turn", "no", "step", 5, 0), (3, "turn", "osc", "x0", 5, 0), (3, "turn", "osc", "step", 2049, 0),
                (3, "turn", "osc", "step", 5, 401), (3, "turn", [], [], [], []), (3, "put_cord", "osc", "osc", "pitch"),
                (3, "put_cord", "amp", "osc", "pitc"), (3, "put_cord", 1, 2, 3), (3, "take_cord", "osc", "in"),
                (3, "take_cord", [], {}), (3, "save", "A"), (3, "save", None), (3, "lead", "b", 0),
                (3, "lead", "a", 401), (3, "put_back", "b"), (3, "put_back", {})]:
            self.no_row(4, self.FIRST + [row, (9, "press", 60, 5)])
            self.no_row(4, self.FIRST + [row, None])
        cut = [(3, "take_cord", "osc", "pitch"), (3, "lead", "a", 0)]
        self.no_row(5, self.FIRST + cut)
        self.no_row(1, [self.ROW, (0, "put_back", "a"), (0, "save", "a")])
        ring = [(3, "take_cord", "osc", "pitch"), (3, "put_cord", "amp", "osc", "pitch")]
        self.no_row(5, self.FIRST + ring)

    def test_samples_in_their_order(self):
        self.no_row(1, [(3, "press", 60, 5), (2, "press", 60, 5)])
        self.no_row(2, [(0, "press", 60, 5), (3, "press", 60, 5), (2, "press", 60, 5), (1, "press", 60, 5)])
        self.no_row(0, [(11, "press", 60, 5)])
        self.no_row(1, [(10, "press", 60, 5), (11, "press", 60, 5), None])
        self.no_row(0, [(1, "press", 60, 5)], 0)
        replayed(patch_of(), 2, [(0, "press", 60, 5)], 0)


if __name__ == "__main__":
    unittest.main()
