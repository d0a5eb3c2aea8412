"""Points 71, 72, 73, 74: Choirs, whose voices are given to keys and stolen from them."""

import random
import unittest

from cordsounds.choir import Choir
from cordsounds.errors import NoCord, NoKey, NoNumber, NoPatch, NoPort, NoSetting, NoTruth, NotThere, Ring, Taken
from cordsounds.live import Live
from cordsounds.parts import ports_of, settings_of
from cordsounds.patch import Patch
from cordsounds.plain import PlainMachine, run
from choirmodel import ChoirModel
from model import fold
from patches import BARE, TONE, VOICE, lists_of, of_voices, random_patches, voice
from things import HUGE, SoundTest, any_things


def bare(many):
    return Choir(Patch(*BARE), many)


def tone(many):
    return Choir(Patch(*TONE), many)


def all_of(choir):
    """All that a Choir tells."""
    return (lists_of(choir.patch()), choir.how_many(), choir.is_pedal_down(), choir.time(), choir.voices(),
            choir.foldings(), choir.stolen(), choir.was_clipped(), choir.stands())


def samples(choir, many):
    return [choir.sample() for _ in range(many)]


class ChanceTest(SoundTest):
    """All deeds by chance, held against a model that knows nothing of Choirs."""

    def setUp(self):
        self.counts = dict.fromkeys(["press", "let_go", "pedal", "turn", "cord", "stolen", "clipped", "folded"], 0)

    def keys(self, chance, choir, model):
        keys = [0, 127, 60, 61, 62, 63, 64, 65, chance.randint(0, 127)]
        word = chance.choice(["press", "press", "let_go", "let_go", "pedal"])
        if word == "press":
            key, force = chance.choice(keys), chance.choice([1, 1024, 2047, chance.randint(1, 2047)])
            self.assertEqual(choir.press(key, force), model.press(key, force))
        elif word == "let_go":
            key = chance.choice(keys + [row[0] for row in choir.voices() if row[1] == "down"] * 3)
            self.assertEqual(choir.let_go(key), model.let_go(key))
        else:
            down = chance.random() < 0.5
            self.assertIsNone(choir.pedal(down))
            model.pedal(down)
        self.counts[word] += 1

    def turn(self, chance, choir, model):
        rows = [(name, setting) for name, part in choir.patch().parts() for setting in settings_of(part)]
        if rows:
            name, setting = chance.choice(rows)
            number, over = chance.randint(1, 256), chance.choice([0, 0, 1, 2, 7, 30, 400])
            self.assertIsNone(choir.turn(name, setting, number, over=over))
            model.turn(name, setting, number, over)
            self.counts["turn"] += 1

    def cord(self, chance, choir, model):
        patch = choir.patch()
        goal, part = chance.choice(patch.parts())
        for port in ports_of(part):
            if patch.start(goal, port) is not None:
                self.assertIsNone(choir.take_cord(goal, port))
                model.take_cord(goal, port)
            start = chance.choice(patch.parts())[0]
            try:
                choir.put_cord(start, goal, port)
            except Ring:
                continue
            model.put_cord(start, goal, port)
            self.counts["cord"] += 1

    def test_tells_what_the_table_tells(self):
        for chance, lists in random_patches(71, 180):
            lists, many = of_voices(chance, lists), chance.randint(1, 6)
            choir, model = Choir(Patch(*lists), many), ChoirModel(lists, many)
            for _ in range(40):
                while chance.random() < 0.5:
                    deed = chance.choice([self.keys] * 6 + [self.turn, self.cord])
                    deed(chance, choir, model)
                    self.alike(choir, model)
                self.assertEqual(list(choir.sample().items()), list(model.sample().items()))
                self.alike(choir, model)
                self.counts["clipped"] += len(model.clipped)
            self.counts["stolen"] += len(model.stolen)
            self.counts["folded"] += len(model.folded)
        for many in self.counts.values():
            self.assertGreater(many, 150)

    def alike(self, choir, model):
        """Sees to it that a Choir tells of itself what the model knows."""
        patch = choir.patch()
        self.assertEqual((patch.parts(), patch.cords()), (list(model.parts.items()), model.cords))
        self.assertEqual((choir.time(), choir.voices(), choir.is_pedal_down(), choir.how_many()),
                         (model.time, model.voices(), model.pedal_down, model.many))
        self.assertEqual((choir.stolen(), choir.foldings(), choir.was_clipped()),
                         (model.stolen, model.foldings(), model.clipped))


class NewTest(SoundTest):
    def test_new(self):
        for many in range(1, 7):
            choir = Choir(patch=voice(), many=many)
            self.assertEqual(lists_of(choir.patch()), VOICE)
            self.assertEqual((choir.how_many(), choir.time(), choir.voices()), (many, 0, [(None, "free")] * many))
            self.tells_truth(choir.is_pedal_down(), False)
            self.assertEqual((choir.foldings(), choir.stolen(), choir.was_clipped()), ([], [], []))
            self.assertEqual(choir.lives(), [None] * many)
            self.assertEqual(list(choir.sample().items()), [("main", 0), ("dry", 0)])
            self.assertEqual(choir.time(), 1)

    def test_refused(self):
        for thing in any_things() + [VOICE]:
            if not isinstance(thing, Patch):
                self.refused(NoPatch, thing, Choir, thing, 1)
                self.refused(NoPatch, thing, Choir, thing, thing)
        for thing in any_things() + [0, 7, -1, "2", HUGE, -HUGE]:
            self.refused(NoNumber, thing, Choir, voice(), thing)

    def test_what_is_told_is_new(self):
        choir = tone(1)
        choir.press(60, 2047)
        choir.press(61, 2047)
        samples(choir, 30)
        for tell in (choir.voices, choir.foldings, choir.stolen, choir.was_clipped, choir.lives):
            told = tell()
            told.append("other")
            self.assertEqual(tell(), told[:-1])


class KeyTest(SoundTest):
    def test_what_comes_into_a_voice(self):
        for key, pitch in ((0, -1024), (1, -1008), (64, 0), (127, 1008)):
            for force in (1, 1024, 2047):
                choir = bare(2)
                choir.press(key, force)
                self.assertEqual(choir.sample(), {"gate": 1, "pitch": pitch, "force": force, "knob": 0})
                choir.pedal(True)
                choir.let_go(key)
                self.assertEqual(choir.sample(), {"gate": 1, "pitch": pitch, "force": force, "knob": 0})
                choir.pedal(False)
                self.assertEqual(choir.sample(), {"gate": 0, "pitch": pitch, "force": force, "knob": 0})

    def test_the_force_may_be_left_out(self):
        choir = bare(1)
        self.assertEqual(choir.press(64), 0)
        self.assertEqual(choir.sample()["force"], 1024)
        self.assertEqual(choir.press(force=7, key=64), 0)
        self.assertEqual(choir.sample()["force"], 7)

    def test_sums_are_clipped(self):
        choir = bare(3)
        choir.press(127, 1000)
        choir.press(126, 1047)
        self.assertEqual(choir.sample(), {"gate": 2, "pitch": 2000, "force": 2047, "knob": 0})
        self.assertEqual(choir.was_clipped(), [])
        choir.press(125, 1)
        self.assertEqual(choir.sample(), {"gate": 3, "pitch": 2047, "force": 2047, "knob": 0})
        self.assertEqual(choir.was_clipped(), ["pitch", "force"])
        for key in (0, 1, 2):
            choir.press(key, 1)
        self.assertEqual(choir.was_clipped(), ["pitch", "force"])
        self.assertEqual(choir.sample(), {"gate": 3, "pitch": -2048, "force": 3, "knob": 0})
        self.assertEqual(choir.was_clipped(), ["pitch"])

    def test_at_the_very_width(self):
        choir = bare(2)
        choir.press(0)
        choir.press(1, 1023)
        self.assertEqual((choir.sample()["force"], choir.was_clipped()), (2047, []))
        choir = Choir(Patch([("p", ("from", "pitch"))], [], [("a", "p"), ("b", "p")]), 2)
        choir.press(0)
        self.assertEqual((choir.sample(), choir.was_clipped()), ({"a": -1024, "b": -1024}, []))
        choir.press(1)
        self.assertEqual((choir.sample(), choir.was_clipped()), ({"a": -2032, "b": -2032}, []))

    def test_the_least_that_never_had_one(self):
        choir = bare(6)
        for at, key in enumerate((9, 8, 7)):
            self.assertEqual(choir.press(key), at)
            choir.let_go(key)
        self.assertEqual([choir.press(key) for key in (1, 2, 3)], [3, 4, 5])
        self.assertEqual(choir.stolen(), [])

    def test_the_one_that_has_this_key(self):
        choir = bare(3)
        for key in (1, 2):
            choir.press(key)
        self.assertEqual(choir.press(1), 0)
        choir.let_go(1)
        self.assertEqual(choir.voices(), [(1, "free"), (2, "down"), (None, "free")])
        self.assertEqual(choir.press(1), 0)
        choir.pedal(True)
        choir.let_go(1)
        self.assertEqual(choir.voices(), [(1, "held"), (2, "down"), (None, "free")])
        self.assertEqual(choir.press(1), 0)
        self.assertEqual((choir.voices()[0], choir.stolen()), ((1, "down"), []))

    def test_the_first_that_became_free(self):
        choir = bare(3)
        for key in (1, 2, 3):
            choir.press(key)
        for key in (2, 3, 1):
            choir.let_go(key)
        self.assertEqual([choir.press(key) for key in (4, 5, 6)], [1, 2, 0])
        self.assertEqual(choir.stolen(), [])

    def test_else_the_first_that_became_held(self):
        choir = bare(4)
        for key in (1, 2, 3, 4):
            choir.press(key)
        choir.pedal(True)
        for key in (3, 1):
            choir.let_go(key)
        choir.sample()
        choir.pedal(True)
        self.assertEqual([choir.press(key) for key in (5, 6)], [2, 0])
        self.assertEqual(choir.stolen(), [(1, 2, 3), (1, 0, 1)])

    def test_a_free_one_ahead_of_a_held_one(self):
        choir = bare(2)
        choir.press(1)
        choir.press(2)
        choir.pedal(True)
        choir.let_go(1)
        choir.pedal(False)
        choir.pedal(True)
        choir.let_go(2)
        self.assertEqual(choir.voices(), [(1, "free"), (2, "held")])
        self.assertEqual((choir.press(3), choir.stolen()), (0, []))

    def test_else_the_first_that_was_pressed(self):
        choir = bare(3)
        for key in (1, 2, 3):
            choir.press(key)
        choir.press(1)
        samples(choir, 4)
        self.assertEqual([choir.press(key, 5) for key in (4, 5, 6)], [1, 2, 0])
        self.assertEqual(choir.stolen(), [(4, 1, 2), (4, 2, 3), (4, 0, 1)])

    def test_pressed_anew_while_down(self):
        choir = tone(2)
        choir.press(60, 2000)
        samples(choir, 9)
        other = tone(2)
        self.assertEqual((choir.press(60, 5), other.press(60, 5)), (0, 0))
        self.assertEqual(samples(choir, 20), samples(other, 20))

    def test_let_go(self):
        choir = bare(2)
        self.assertIsNone(choir.let_go(60))
        choir.press(60)
        choir.press(0)
        self.assertIsNone(choir.let_go(61))
        self.assertEqual((choir.let_go(0), choir.let_go(key=0)), (1, None))
        choir.pedal(True)
        self.assertEqual((choir.let_go(60), choir.let_go(60)), (0, None))
        self.assertEqual(choir.voices(), [(60, "held"), (0, "free")])
        choir.press(61)
        self.assertEqual(choir.voices(), [(60, "held"), (61, "down")])

    def test_the_pedal_frees_by_the_voices_numbers(self):
        choir = bare(3)
        for key in (1, 2, 3):
            choir.press(key)
        choir.pedal(down=True)
        for key in (3, 1):
            choir.let_go(key)
        self.tells_truth(choir.is_pedal_down(), True)
        choir.pedal(False)
        self.tells_truth(choir.is_pedal_down(), False)
        self.assertEqual(choir.voices(), [(1, "free"), (2, "down"), (3, "free")])
        choir.let_go(2)
        self.assertEqual([choir.press(key) for key in (4, 5, 6)], [0, 2, 1])

    def test_what_became_free_ahead_of_the_pedal(self):
        choir = bare(3)
        for key in (1, 2, 3):
            choir.press(key)
        choir.let_go(3)
        choir.pedal(True)
        choir.let_go(2)
        choir.let_go(1)
        choir.pedal(False)
        self.assertEqual([choir.press(key) for key in (4, 5, 6)], [2, 0, 1])

    def test_sounds_on_when_it_is_free(self):
        choir = tone(1)
        choir.press(60)
        samples(choir, 12)
        choir.let_go(60)
        wanted = run(Patch(*TONE), {"gate": [1] * 12, "pitch": [-64] * 60, "force": [1024] * 60}, 60)
        self.assertEqual([told["left"] for told in samples(choir, 48)], wanted["left"][12:])
        self.assertTrue(any(wanted["left"][14:30]))

    def test_refused(self):
        choir = tone(2)
        choir.press(60)
        choir.press(61)
        choir.turn("osc", "step", 900, over=40)
        choir.pedal(True)
        choir.let_go(60)
        samples(choir, 5)
        before = all_of(choir)
        for thing in any_things() + [-1, 128, -HUGE, "60"]:
            self.refused(NoKey, thing, choir.press, thing)
            self.refused(NoKey, thing, choir.press, thing, 0)
            self.refused(NoKey, thing, choir.let_go, thing)
        for thing in any_things() + [0, -1, 2048, -2048, "1"]:
            self.refused(NoNumber, thing, choir.press, 60, thing)
            self.refused(NoNumber, thing, choir.press, 0, force=thing)
        for thing in any_things() + [0, 1, "yes"]:
            if not isinstance(thing, bool):
                self.refused(NoTruth, thing, choir.pedal, thing)
        self.assertEqual(all_of(choir), before)


class SoundsAloneTest(SoundTest):
    """Each sample is the clipped sum of what plain machines tell, each new from a key's pressing."""

    def test_the_sum_of_plain_machines(self):
        for chance, lists in random_patches(72, 36):
            lists, many = of_voices(chance, lists), chance.randint(1, 6)
            choir, machines = Choir(Patch(*lists), many), {}
            for _ in range(60):
                key, force = chance.randint(50, 60), chance.randint(1, 2047)
                if chance.random() < 0.2:
                    machines[choir.press(key, force)] = (PlainMachine(Patch(*lists)), key, force)
                elif chance.random() < 0.2:
                    choir.let_go(key)
                elif chance.random() < 0.1:
                    choir.pedal(chance.random() < 0.5)
                sums = {name: 0 for name, _ in lists[2]}
                for at, (machine, key, force) in machines.items():
                    gate = 0 if choir.voices()[at][1] == "free" else 1
                    told = machine.sample({"gate": gate, "pitch": 16 * key - 1024, "force": force})
                    sums = {name: total + told[name] for name, total in sums.items()}
                self.assertEqual(choir.sample(), {name: fold(total, "clip") for name, total in sums.items()})
                self.assertEqual(choir.was_clipped(), [name for name in sums if not -2048 <= sums[name] <= 2047])

    def test_hangs_on_no_other_key(self):
        # The worths are small here, so that no sum is clipped and the voices may be taken apart.
        lists = ([("osc", ("wave", "saw", 77)), ("pit", ("from", "pitch")), ("less", ("mix", (40,), "clip"))],
                 [("pit", "osc", "pitch"), ("osc", "less", "a")], [("o", "less")])
        chance = random.Random(5)
        for _ in range(20):
            both, alone, other = [Choir(Patch(*lists), many) for many in (6, 1, 5)]
            told = [[], [], []]
            for sample in range(40):
                if sample == 7:
                    both.press(60, 900)
                    alone.press(60, 900)
                if sample in (5, 12, 13, 25):
                    key = chance.randint(61, 127)
                    both.press(key)
                    other.press(key)
                for row, choir in zip(told, (both, alone, other)):
                    row.append(choir.sample()["o"])
            self.assertEqual(told[0], [one + two for one, two in zip(told[1], told[2])])


class TurnTest(SoundTest):
    # Of a gate of 1 nothing is left behind the division, so the force is what is weighed.
    LOUD = ([("two", ("mix", (0, 100), "clip")), ("f", ("from", "force"))], [("f", "two", "a")], [("o", "two")])

    def loud(self, many):
        return Choir(Patch(*self.LOUD), many)

    def tells(self, choir, many):
        return [told["o"] for told in samples(choir, many)]

    def test_of_all_voices_and_of_those_that_begin_later(self):
        choir = self.loud(3)
        choir.press(1, 256)
        self.assertIsNone(choir.turn("two", "x0", 10, over=4))
        self.assertEqual(choir.patch().part("two"), ("mix", (10, 100), "clip"))
        self.assertEqual(self.tells(choir, 2), [2, 5])
        choir.press(2, 256)
        self.assertEqual(self.tells(choir, 3), [17, 20, 20])
        choir.turn(over=2, number=0, setting="x0", name="two")
        self.assertEqual(choir.patch().part("two"), ("mix", (0, 100), "clip"))
        self.assertEqual(self.tells(choir, 3), [10, 0, 0])
        choir.turn("two", "x0", 7)
        self.assertEqual(self.tells(choir, 1), [14])

    def test_a_voice_pressed_anew_has_the_number_at_once(self):
        choir = self.loud(1)
        choir.press(1, 256)
        choir.turn("two", "x0", 100, over=100)
        self.assertEqual(self.tells(choir, 2), [1, 2])
        choir.press(1, 256)
        self.assertEqual(self.tells(choir, 2), [100, 100])

    def test_without_a_voice(self):
        choir = self.loud(1)
        choir.turn("two", "x0", 100, over=400)
        choir.press(1, 256)
        self.assertEqual(self.tells(choir, 1), [100])

    def test_of_free_voices_too(self):
        choir = self.loud(2)
        choir.press(1, 256)
        choir.let_go(1)
        choir.turn("two", "x0", 100)
        self.assertEqual(self.tells(choir, 1), [100])
        choir.take_cord("two", "a")
        self.assertEqual(self.tells(choir, 1), [0])

    def test_cords(self):
        choir = self.loud(2)
        choir.turn("two", "x0", 50)
        choir.press(1, 256)
        self.assertIsNone(choir.put_cord("f", "two", "b"))
        self.assertEqual(choir.patch().cords(), [("f", "two", "a"), ("f", "two", "b")])
        self.assertEqual(self.tells(choir, 1), [150])
        choir.press(2, 256)
        self.assertEqual(self.tells(choir, 1), [300])
        self.assertIsNone(choir.take_cord(port="a", goal="two"))
        self.assertEqual(self.tells(choir, 1), [200])
        choir.put_cord(start="f", goal="two", port="a")
        self.assertEqual(choir.patch().cords(), [("f", "two", "b"), ("f", "two", "a")])
        choir.press(2, 256)
        self.assertEqual(self.tells(choir, 1), [300])

    def test_refused_with_voices_and_without(self):
        for keys in ((), (60,), (60, 61, 62)):
            choir = tone(3)
            for key in keys:
                choir.press(key)
            choir.turn("osc", "step", 300, over=50)
            samples(choir, 3)
            before = all_of(choir)
            self.refuse_turns(choir)
            self.refuse_cords(choir)
            self.assertEqual(all_of(choir), before)

    def refuse_turns(self, choir):
        for thing in any_things() + ["no", "left"]:
            self.refused(NotThere, thing, choir.turn, thing, None, None, over=None)
        for thing in any_things() + ["x0", "many", "pitch"]:
            self.refused(NoSetting, thing, choir.turn, "osc", thing, None, over=None)
        for thing in any_things() + [-1, 2049, "1"]:
            self.refused(NoNumber, thing, choir.turn, "osc", "step", thing, over=None)
        for thing in any_things() + [-1, 401, "1"]:
            self.refused(NoNumber, thing, choir.turn, "osc", "step", 5, over=thing)
        with self.assertRaises(TypeError):
            choir.turn("osc", "step", 5, 5)

    def refuse_cords(self, choir):
        for thing in any_things():
            for cord in ((thing, "osc", "pitch"), ("osc", thing, "pitch"), ("osc", "osc", thing), (thing,) * 3):
                self.refused_of(NoCord, cord, choir.put_cord, *cord)
            self.refused_of(NotThere, (thing, "in"), choir.take_cord, thing, "in")
            self.refused_of(NotThere, ("late", thing), choir.take_cord, "late", thing)
        self.refused(NotThere, "no", choir.put_cord, "no", "none", "in")
        self.refused(NotThere, "none", choir.put_cord, "osc", "none", "in")
        self.refused_of(NoPort, ("mixed", "d"), choir.put_cord, "osc", "mixed", "d")
        self.refused_of(Taken, ("osc", "pitch"), choir.put_cord, "osc", "osc", "pitch")
        choir = choir.twin()
        choir.take_cord("osc", "pitch")
        self.refused_of(Ring, ["osc", "amp"], choir.put_cord, "amp", "osc", "pitch")

    def test_over_at_its_bounds(self):
        for over, told in ((0, 200), (1, 200), (400, 0)):
            choir = self.loud(1)
            choir.press(1, 256)
            choir.turn("two", "x0", 200, over=over)
            self.assertEqual(self.tells(choir, 1), [told])
            self.assertEqual(self.tells(choir, 400)[-1], 200)


class FoldingTest(SoundTest):
    # Folds when the force is 1024 and more.
    LISTS = ([("near", ("mix", (256, 256), "fold")), ("ear", ("from", "force")), ("far", ("taps", (256, 256), "wrap"))],
             [("ear", "near", "a"), ("ear", "near", "b"), ("ear", "far", "in")], [("o", "near")])

    def test_by_samples_then_voices_then_parts(self):
        choir = Choir(Patch(*self.LISTS), 3)
        choir.sample()
        choir.press(1, 1023)
        choir.press(2, 1024)
        samples(choir, 2)
        self.assertEqual(choir.foldings(), [(1, "near", 1), (1, "far", 2)])
        choir.press(3, 2000)
        choir.press(1, 2000)
        samples(choir, 3)
        self.assertEqual(choir.foldings(), [(1, "near", 1), (1, "far", 2), (0, "near", 3), (2, "near", 3),
                                            (0, "far", 4), (2, "far", 4)])

    def test_the_first_whatever_the_keys(self):
        choir = Choir(Patch(*self.LISTS), 1)
        choir.press(1, 2000)
        choir.sample()
        choir.press(2, 5)
        samples(choir, 3)
        self.assertEqual(choir.foldings(), [(0, "near", 0)])
        choir.press(3, 2000)
        samples(choir, 3)
        self.assertEqual(choir.foldings(), [(0, "near", 0), (0, "far", 5)])
        choir.press(4, 2000)
        samples(choir, 3)
        self.assertEqual(choir.foldings(), [(0, "near", 0), (0, "far", 5)])

    def test_pressed_without_a_sample_between(self):
        choir = Choir(Patch(*self.LISTS), 1)
        choir.press(1, 2000)
        choir.press(2, 5)
        choir.sample()
        self.assertEqual(choir.foldings(), [])
        self.assertEqual(choir.stolen(), [(0, 0, 1)])


class EqualTest(SoundTest):
    def equal(self, one, other, wanted):
        self.tells_truth(one == other, wanted)
        self.tells_truth(one != other, not wanted)
        if wanted:
            self.assertEqual(one.stands(), other.stands())

    def test_new(self):
        self.equal(tone(2), tone(2), True)
        self.equal(tone(2), tone(3), False)
        self.equal(tone(2), bare(2), False)

    def test_of_unlike_pasts(self):
        one, other = tone(2), tone(2)
        for key in (1, 2, 3, 4, 60, 61):
            one.press(key, 2047)
            samples(one, 8)
        for choir in (one, other):
            choir.press(60)
            choir.press(61)
        self.assertNotEqual((one.time(), one.stolen(), one.foldings()), (other.time(), other.stolen(), other.foldings()))
        self.assertEqual(one.voices(), other.voices())
        self.equal(one, other, True)
        one.sample()
        self.equal(one, other, False)

    def test_keys_words_and_forces(self):
        for deed in ("key", "force", "word", "held", "pedal"):
            one, other = bare(1), bare(1)
            one.press(60, 5)
            other.press(61 if deed == "key" else 60, 6 if deed == "force" else 5)
            if deed == "word":
                other.let_go(60)
            if deed == "held":
                one.let_go(60)
                other.pedal(True)
                other.let_go(60)
                one.pedal(True)
            if deed == "pedal":
                other.pedal(True)
            self.equal(one, other, False)

    def test_that_had_a_key_and_that_never_had_one(self):
        one, other = bare(2), bare(2)
        one.press(60)
        one.let_go(60)
        self.equal(one, other, False)
        other.press(60)
        other.let_go(60)
        self.equal(one, other, True)

    def test_of_each_word_in_the_same_order(self):
        rows = {"down": (), "free": ((False, 1), (False, 2)), "held": ((True, 1), (True, 2))}
        for word, goings in rows.items():
            one, other = bare(2), bare(2)
            for choir, order in ((one, 1), (other, -1)):
                choir.press(1)
                choir.press(2)
                for pedal, key in goings[::order]:
                    choir.pedal(pedal)
                    choir.let_go(key)
                if word == "down" and order == -1:
                    choir.press(1)
            self.assertEqual(one.voices(), other.voices())
            self.equal(one, other, False)
            self.assertNotEqual(one.press(3), other.press(3))

    def test_no_matter_which_word_came_first(self):
        one, other = bare(2), bare(2)
        one.press(1)
        one.let_go(1)
        one.press(2)
        other.press(1)
        other.press(2)
        other.let_go(1)
        self.equal(one, other, True)

    def test_lives(self):
        one, other = tone(1), tone(1)
        one.press(1)
        other.press(1)
        one.turn("osc", "step", 50, over=4)
        other.turn("osc", "step", 50)
        self.assertEqual(one.patch(), other.patch())
        self.equal(one, other, False)
        samples(one, 4)
        samples(other, 4)
        one.press(1)
        self.equal(one, other, False)
        other.press(1)
        self.equal(one, other, True)

    def test_cords_in_whatever_order(self):
        one, other = tone(1), tone(1)
        one.press(1)
        other.press(1)
        one.take_cord("amp", "a")
        self.equal(one, other, False)
        one.put_cord("osc", "amp", "a")
        self.assertNotEqual(one.patch().cords(), other.patch().cords())
        self.equal(one, other, True)

    def test_of_any_thing(self):
        choir = tone(1)
        for thing in any_things() + [Patch(*TONE), Live(Patch(*TONE)), choir.stands()]:
            self.tells_truth(choir == thing, False)
            self.tells_truth(thing == choir, False)

    def test_twin(self):
        chance = random.Random(9)
        choir = tone(3)
        for at in range(30):
            choir.press(chance.randint(50, 56), chance.randint(1, 2047))
            choir.pedal(at % 3 == 0)
            choir.let_go(chance.randint(50, 56))
            choir.turn("osc", "step", chance.randint(1, 500), over=9)
            twin, before = choir.twin(), all_of(choir)
            self.assertEqual(all_of(twin), before)
            self.equal(twin, choir, True)
            for other in (twin, choir.twin()):
                other.press(99)
                other.press(98, 2047)
                other.pedal(True)
                other.let_go(99)
                other.turn("osc", "step", 7)
                other.take_cord("amp", "a")
                samples(other, 3)
            self.assertEqual(all_of(choir), before)
            again = choir.twin()
            self.assertEqual(samples(again, 5), samples(choir, 5))
            self.assertEqual(all_of(again), all_of(choir))


class OtherStagesTest(SoundTest):
    def test_lives(self):
        choir = tone(3)
        choir.press(60)
        choir.press(61)
        lives = choir.lives()
        self.assertEqual([live.__class__ for live in lives], [Live, Live, None.__class__])
        choir.press(60)
        self.assertIsNot(choir.lives()[0], lives[0])
        self.assertIs(choir.lives()[1], lives[1])
        choir.sample()
        self.assertEqual([live.time() for live in choir.lives()[:2]], [1, 1])

    def test_stands_hold_nothing_that_changes(self):
        choir = tone(2)
        choir.press(60)
        choir.turn("osc", "step", 9, over=4)
        stands, key = choir.stands(), hash(choir.stands())
        self.assertIs(stands.__class__, tuple)
        samples(choir, 3)
        choir.press(61)
        self.assertEqual(hash(stands), key)
        self.assertNotEqual(choir.stands(), stands)


if __name__ == "__main__":
    unittest.main()
