"""Points 21, 23, 61, 62, 63, 64: Lives, whose settings, cords and parts are changed in the midst."""

import random
import unittest

from cordsounds.errors import NoCord, NoIns, NoNumber, NoPart, NoPatch, NoPort, NoSetting, NotThere, Ring, Taken
from cordsounds.live import Live
from cordsounds.parts import ports_of, settings_of
from cordsounds.patch import Patch
from cordsounds.plain import PlainMachine
from livemodel import LiveModel, setting_of, with_setting
from patches import KINDS, VOICE, at, lists_of, loud, random_part, random_patches, random_rows, voice
from things import HUGE, SoundTest, any_things, no_ins


def all_of(live):
    """All that a Live tells."""
    patch = live.patch()
    worths = [live.worth(name) for name, _ in patch.parts()]
    return lists_of(patch), live.time(), worths, live.foldings(), live.stands(), live.turning()


# Where x is 256, the out tells the factor x0.
TWO = ([("two", ("mix", (0, 100), "clip")), ("ear", ("from", "x"))], [("ear", "two", "a")], [("o", "two")])
SHAPE = ("shape", 1000, 500, 300, 200)


def two():
    """A Live whose out tells the factor x0."""
    return Live(Patch(*TWO))


def tells(live, many):
    """What the factor x0 is at so many samples."""
    return [live.sample({"x": 256})["o"] for _ in range(many)]


class ChanceTest(SoundTest):
    """All deeds by chance, held against a model that knows nothing of Lives."""

    def setUp(self):
        self.counts = {"turn": 0, "cord": 0, "part": 0}

    def turn(self, chance, live, model):
        rows = [(name, setting) for name, part in live.patch().parts() for setting in settings_of(part)]
        if rows:
            name, setting = chance.choice(rows)
            number, over = chance.randint(1, 256), chance.choice([0, 0, 1, 2, 7, 30, 400])
            self.assertIsNone(live.turn(name, setting, number, over=over))
            model.turn(name, setting, number, over)
            self.counts["turn"] += 1

    def cord(self, chance, live, model):
        patch = live.patch()
        goal, part = chance.choice(patch.parts())
        for port in ports_of(part):
            if patch.start(goal, port) is not None:
                self.assertIsNone(live.take_cord(goal, port))
                del model.model.cords[(goal, port)]
            start = chance.choice(patch.parts())[0]
            try:
                live.put_cord(start, goal, port)
            except Ring:
                continue
            model.model.cords[(goal, port)] = start
            self.counts["cord"] += 1

    def part(self, chance, live, model):
        patch = live.patch()
        name, part = chance.choice(patch.parts())
        other = random_part(chance, chance.choice([part[0], part[0], *KINDS]))
        if ports_of(part) != ports_of(other):
            self.refused(NoPart, other, live.put_part, name, other)
            return
        try:
            live.put_part(name, other)
        except Ring:
            return
        model.put_part(name, other)
        self.counts["part"] += 1

    def test_tells_what_the_table_tells(self):
        for chance, lists in random_patches(31, 240):
            live, model = Live(Patch(*lists)), LiveModel(*lists)
            rows = random_rows(chance, 60)
            for sample in range(60):
                if chance.random() < 0.2:
                    deed = chance.choice([self.turn, self.turn, self.cord, self.part])
                    deed(chance, live, model)
                    self.alike(live, model)
                self.assertEqual(live.sample(at(rows, sample)), model.sample(at(rows, sample)))
                self.alike(live, model)
        for many in self.counts.values():
            self.assertGreater(many, 200)

    def alike(self, live, model):
        """Sees to it that a Live tells of itself what the model knows."""
        told = model.model
        self.assertEqual(live.patch().parts(), list(told.parts.items()))
        self.assertEqual({(goal, port): start for start, goal, port in live.patch().cords()}, told.cords)
        self.assertEqual((live.time(), live.foldings(), live.turning()), (told.time, told.foldings(), model.turning()))
        self.assertEqual({name: live.worth(name) for name in told.names}, told.worths)


class AsAMachineTest(SoundTest):
    def test_without_deeds_it_tells_what_the_plain_machine_tells(self):
        for chance, lists in random_patches(32, 60):
            live, machine, rows = Live(Patch(*lists)), PlainMachine(Patch(*lists)), random_rows(chance, 60)
            for sample in range(60):
                told = live.sample(at(rows, sample))
                self.assertEqual(told, machine.sample(ins=at(rows, sample)))
                self.assertEqual(list(told), [name for name, _ in lists[2]])
            self.assertEqual((live.time(), live.foldings(), live.patch(), live.turning()),
                             (60, machine.foldings(), machine.patch(), []))
            for name, _ in lists[0]:
                self.assertEqual(live.worth(name), machine.worth(name))

    def test_new(self):
        live = Live(patch=voice())
        self.assertEqual(lists_of(live.patch()), VOICE)
        self.assertEqual((live.time(), live.foldings(), live.turning(), live.worth(name="sum")), (0, [], [], 0))
        self.assertIs(live.stands().__class__, tuple)

    def test_refused_as_a_machine(self):
        for thing in any_things() + [VOICE]:
            if not isinstance(thing, Patch):
                self.refused(NoPatch, thing, Live, thing)
        live = two()
        live.turn("two", "x0", 100, over=10)
        tells(live, 3)
        before = all_of(live)
        for thing in any_things() + ["no", "o", "x"]:
            self.refused(NotThere, thing, live.worth, thing)
        for thing in no_ins():
            self.refused(NoIns, thing, live.sample, thing)
            self.assertEqual(all_of(live), before)
        self.assertEqual(tells(live, 2), [40, 50])

    def test_what_is_told_is_new(self):
        live = Live(loud())
        live.turn("near", "x0", 1, over=9)
        live.sample({"left": 2000})
        for tell in (live.turning, live.foldings, live.patch().cords):
            told = tell()
            told.append("other")
            self.assertEqual(tell(), told[:-1])


class TurnTest(SoundTest):
    def test_at_once(self):
        live = two()
        self.assertEqual(tells(live, 2), [0, 0])
        self.assertIsNone(live.turn("two", "x0", 77))
        self.assertEqual(live.patch().part("two"), ("mix", (77, 100), "clip"))
        self.assertEqual((live.turning(), live.worth("two")), ([], 0))
        self.assertEqual(tells(live, 2), [77, 77])
        live.turn(name="two", setting="x0", number=-5, over=0)
        self.assertEqual(tells(live, 1), [-5])

    def test_over_some_samples(self):
        for old, number, over, wanted in (
                (0, 10, 4, [2, 5, 7, 10]), (0, -10, 4, [-3, -5, -8, -10]), (7, 8, 3, [7, 7, 8]), (8, 7, 3, [7, 7, 7]),
                (0, 1, 1, [1]), (-256, 256, 2, [0, 256]), (5, 5, 3, [5, 5, 5]), (-1, 1, 4, [-1, 0, 0, 1])):
            live = two()
            live.turn("two", "x0", old)
            live.turn("two", "x0", number, over=over)
            self.assertEqual(tells(live, over + 2), wanted + [number] * 2)

    def test_no_step_is_greater_than_told(self):
        chance = random.Random(3)
        for over in [1, 2, 399, 400] + [chance.randint(1, 400) for _ in range(12)]:
            old, number = chance.randint(-256, 256), chance.randint(-256, 256)
            live = two()
            live.turn("two", "x0", old)
            live.turn("two", "x0", number, over=over)
            told = [old] + tells(live, over)
            self.assertEqual(told, [old + (number - old) * j // over for j in range(over + 1)])
            greatest = -(-abs(number - old) // over)
            self.assertLessEqual(max(abs(b - a) for a, b in zip(told, told[1:])), greatest)
            self.assertEqual((live.turning(), told[-1]), ([], number))

    def test_the_patch_as_far_as_they_went(self):
        live = two()
        live.turn("two", "x0", 10, over=4)
        for left, factor in ((4, 0), (3, 2), (2, 5), (1, 7)):
            self.assertEqual(live.patch().part("two"), ("mix", (factor, 100), "clip"))
            self.assertEqual(live.turning(), [("two", "x0", 10, left)])
            tells(live, 1)
        self.assertEqual((live.patch().part("two"), live.turning()), (("mix", (10, 100), "clip"), []))

    def test_also_where_it_is_the_number_already(self):
        live = two()
        live.turn("two", "x1", 100, over=3)
        self.assertEqual(live.turning(), [("two", "x1", 100, 3)])
        tells(live, 2)
        self.assertEqual(live.turning(), [("two", "x1", 100, 1)])
        tells(live, 1)
        self.assertEqual(live.turning(), [])

    def test_turned_anew_amid(self):
        live = two()
        live.turn("two", "x0", 100, over=10)
        self.assertEqual(tells(live, 3), [10, 20, 30])
        live.turn("two", "x0", 0, over=2)
        self.assertEqual(live.turning(), [("two", "x0", 0, 2)])
        self.assertEqual(tells(live, 3), [15, 0, 0])
        live.turn("two", "x0", 100, over=10)
        live.turn("two", "x0", 50, over=5)
        self.assertEqual(tells(live, 2), [10, 20])
        live.turn("two", "x0", 7)
        self.assertEqual((live.turning(), tells(live, 9)), ([], [7] * 9))

    def test_one_beside_another_of_the_same_part(self):
        live = two()
        live.turn("two", "x0", 10, over=2)
        live.turn("two", "x1", 0, over=4)
        parts = []
        for _ in range(5):
            live.sample({})
            parts.append(live.patch().part("two")[1])
        self.assertEqual(parts, [(5, 75), (10, 50), (10, 25), (10, 0), (10, 0)])

    def test_in_the_parts_order_by_the_settings_names(self):
        parts = [("z", ("taps", (0,) * 8, "clip")), ("y", SHAPE), ("x", ("wave", "saw", 0)), ("a", ("slow", "saw", 0)),
                 ("b", ("follow", 1)), ("c", ("noise", 1))]
        live = Live(Patch(parts, [], [("o", "z")]))
        rows = [(name, setting) for name, part in parts for setting in settings_of(part)]
        for name, setting in rows[::-1]:
            live.turn(name, setting, 9, over=5)
        wanted = [("z", f"x{place}") for place in range(8)] + [
            ("y", "away"), ("y", "down"), ("y", "stay"), ("y", "up"), ("x", "step"), ("a", "step"), ("b", "step")]
        self.assertEqual(live.turning(), [row + (9, 5) for row in wanted])

    def test_each_setting_of_each_kind(self):
        for kind in KINDS:
            part = random_part(random.Random(8), kind)
            for setting in settings_of(part):
                live, old = Live(Patch([("a", part)], [], [("o", "a")])), setting_of(part, setting)
                live.turn("a", setting, 200, over=3)
                for j in (1, 2, 3):
                    live.sample({})
                    self.assertEqual(live.patch().part("a"), with_setting(part, setting, old + (200 - old) * j // 3))

    def test_keeps_how_the_part_stands(self):
        live = Live(Patch([("a", ("wave", "saw", 64)), ("b", SHAPE)], [], [("o", "a")]))
        self.assertEqual([live.sample({})["o"] for _ in range(3)], [-2048, -1984, -1920])
        live.turn("a", "step", 128)
        self.assertEqual([live.sample({})["o"] for _ in range(3)], [-1856, -1728, -1600])

    def test_refused(self):
        live = two()
        live.turn("two", "x0", 100, over=10)
        live.turn("two", "x1", 0, over=10)
        tells(live, 3)
        before = all_of(live)
        for thing in any_things() + ["no", "o"]:
            self.refused(NotThere, thing, live.turn, thing, None, None, over=None)
        for thing in any_things() + ["x2", "step", "many", "factors"]:
            self.refused(NoSetting, thing, live.turn, "two", thing, None, over=None)
            self.refused(NoSetting, thing, live.turn, "ear", thing, 1)
        for thing in any_things() + [257, -257, "1"]:
            self.refused(NoNumber, thing, live.turn, "two", "x0", thing, over=None)
            self.refused(NoNumber, thing, live.turn, "two", "x0", thing)
        for thing in any_things() + [-1, 401, -HUGE, "1"]:
            self.refused(NoNumber, thing, live.turn, "two", "x0", 5, over=thing)
        self.assertEqual(all_of(live), before)
        with self.assertRaises(TypeError):
            live.turn("two", "x0", 5, 5)
        self.assertEqual(tells(live, 2), [40, 50])

    def test_numbers_at_each_bound(self):
        rows = [(("wave", "saw", 5), "step", 0, 2048), (("slow", "saw", 5), "step", 0, 2048),
                (("follow", 5), "step", 1, 2047), (SHAPE, "up", 1, 2047), (SHAPE, "down", 1, 2047),
                (SHAPE, "stay", 0, 2047), (SHAPE, "away", 1, 2047), (("taps", (5,), "fold"), "x0", -256, 256),
                (("mix", (5, 6), "fold"), "x1", -256, 256)]
        for part, setting, low, high in rows:
            live = Live(Patch([("a", part)], [], [("o", "a")]))
            for number in (low - 1, high + 1):
                self.refused(NoNumber, number, live.turn, "a", setting, number)
                self.refused(NoNumber, number, live.turn, "a", setting, number, over=5)
            for number in (low, high):
                live.turn("a", setting, number, over=400)
                live.turn("a", setting, number)
                self.assertEqual(live.patch().part("a"), with_setting(part, setting, number))


class CordTest(SoundTest):
    def test_put_in_and_taken_out(self):
        live = two()
        live.turn("two", "x0", 50)
        self.assertEqual(tells(live, 2), [50, 50])
        self.assertIsNone(live.take_cord("two", "a"))
        self.assertEqual((live.worth("two"), live.patch().cords()), (50, []))
        self.assertEqual(tells(live, 2), [0, 0])
        self.assertIsNone(live.put_cord("ear", "two", "b"))
        self.assertEqual(tells(live, 1), [100])
        live.put_cord(port="a", goal="two", start="ear")
        self.assertEqual(live.patch().cords(), [("ear", "two", "b"), ("ear", "two", "a")])
        self.assertEqual(tells(live, 1), [150])
        live.take_cord(port="b", goal="two")
        self.assertEqual(tells(live, 1), [50])

    def test_turns_go_on(self):
        live = two()
        live.turn("two", "x0", 100, over=5)
        self.assertEqual(tells(live, 2), [20, 40])
        live.take_cord("two", "a")
        self.assertEqual(tells(live, 1), [0])
        live.put_cord("ear", "two", "a")
        self.assertEqual(live.turning(), [("two", "x0", 100, 2)])
        self.assertEqual(tells(live, 3), [80, 100, 100])

    def test_all_parts_keep_how_they_stand(self):
        live, machine = Live(voice()), PlainMachine(voice())
        for _ in range(9):
            live.sample({"gate": 1})
            machine.sample({"gate": 1})
        live.take_cord("sum", "b")
        self.assertEqual(live.stands()[0], machine.stands())
        live.put_cord("echo", "sum", "b")
        self.assertEqual(live.sample({"gate": 1}), machine.sample({"gate": 1}))

    def test_of_the_order_anew(self):
        parts = [("a", ("taps", (256,), "clip")), ("b", ("taps", (256,), "clip")), ("x", ("from", "x"))]
        live = Live(Patch(parts, [("x", "a", "in"), ("a", "b", "in")], [("o", "a"), ("p", "b")]))
        self.assertEqual(live.sample({"x": 5}), {"o": 5, "p": 5})
        for goal in ("a", "b"):
            live.take_cord(goal, "in")
        live.put_cord("x", "b", "in")
        live.put_cord("b", "a", "in")
        self.assertEqual(live.patch().order(), ["x", "b", "a"])
        self.assertEqual(live.sample({"x": 7}), {"o": 7, "p": 7})

    def test_refused(self):
        live = Live(voice())
        live.turn("tone", "step", 100, over=9)
        live.sample({"gate": 1})
        before = all_of(live)
        for thing in any_things():
            for cord in ((thing, "tone", "pitch"), ("key", thing, "pitch"), ("key", "tone", thing), (thing,) * 3):
                self.refused_of(NoCord, cord, live.put_cord, *cord)
            self.refused_of(NotThere, (thing, "a"), live.take_cord, thing, "a")
            self.refused_of(NotThere, ("sum", thing), live.take_cord, "sum", thing)
        self.refused(NotThere, "no", live.put_cord, "no", "none", "in")
        self.refused(NotThere, "none", live.put_cord, "key", "none", "in")
        self.refused_of(NoPort, ("tone", "in"), live.put_cord, "key", "tone", "in")
        self.refused_of(Taken, ("gain", "gate"), live.put_cord, "gain", "gain", "gate")
        self.refused_of(Ring, ["tone", "loud"], live.put_cord, "loud", "tone", "pitch")
        self.refused_of(Ring, ["tone"], live.put_cord, "tone", "tone", "pitch")
        for goal, port in (("tone", "pitch"), ("sum", "c"), ("no", "a"), ("key", "gate")):
            self.refused_of(NotThere, (goal, port), live.take_cord, goal, port)
        self.assertEqual(all_of(live), before)


class PartTest(SoundTest):
    def live(self, part):
        """A Live of one part, whose ports all hear the in, that did some samples."""
        parts = [("it", part), ("ear", ("from", "x"))]
        live = Live(Patch(parts, [("ear", "it", port) for port in ports_of(part)], [("o", "it")]))
        for worth in (2047, -2048, 700, 5):
            live.sample({"x": worth})
        return live

    def test_keeps_how_the_elder_stands_where_it_may(self):
        rows = [(("wave", "saw", 64), ("wave", "tri", 9)), (("slow", "saw", 64), ("slow", "pulse", 9)),
                (("noise", 5), ("noise", 9)), (SHAPE, ("shape", 1, 2, 3, 4)), (("times", "clip"), ("times", "fold")),
                (("taps", (256, 256, 1), "clip"), ("taps", (1, 2, 3), "wrap")), (("from", "x"), ("from", "y")),
                (("mix", (256, 256), "clip"), ("mix", (1, 2), "fold")), (("follow", 1), ("follow", 9)),
                (("delay", 3), ("delay", 3))]
        for part, other in rows:
            live = self.live(part)
            before, patch = all_of(live), live.patch().with_part("it", other)
            self.assertIsNone(live.put_part("it", other))
            self.assertEqual(live.patch(), patch)
            self.assertEqual(live.stands()[0], ((other,) + before[4][0][0][1:], before[4][0][1]))
            self.assertEqual((live.time(), live.worth("it"), live.foldings()), (4, before[2][0], before[3]))

    def test_else_begins_anew(self):
        rows = [(("delay", 3), ("delay", 4)), (("delay", 3), ("taps", (256,), "clip")), (("delay", 3), ("follow", 9)),
                (("taps", (256, 256), "clip"), ("taps", (256, 256, 1), "clip")), (("follow", 1), ("delay", 64)),
                (("times", "clip"), ("mix", (256, 256), "clip")), (("mix", (256, 256), "clip"), ("times", "clip")),
                (("noise", 5), ("slow", "saw", 9)), (("slow", "saw", 9), ("from", "x")), (("from", "x"), ("noise", 9))]
        for part, other in rows:
            live = self.live(part)
            before, new = all_of(live), PlainMachine(live.patch().with_part("it", other))
            live.put_part(name="it", part=other)
            self.assertEqual(live.stands()[0], (new.stands()[0], before[4][0][1]))
            self.assertEqual((live.time(), live.worth("it"), live.foldings()), (4, before[2][0], before[3]))
            self.assertEqual(live.sample({"x": 9}), new.sample({"x": 9}))

    def test_when_it_first_folded_stays(self):
        for other in (("mix", (1, 1), "clip"), ("times", "clip")):
            live = self.live(("mix", (256, 256), "clip"))
            self.assertEqual(live.foldings(), [("it", 0)])
            live.put_part("it", other)
            live.sample({"x": -2048})
            self.assertEqual(live.foldings(), [("it", 0)])

    def test_folds_first_as_another_part(self):
        live = self.live(("mix", (1, 1), "clip"))
        live.put_part("it", ("times", "clip"))
        live.sample({"x": 5})
        live.sample({"x": -2048})
        self.assertEqual(live.foldings(), [("it", 5)])

    def test_lets_its_turns_fall_and_no_others(self):
        for part in (("mix", (0, 100), "clip"), ("mix", (50, 50), "wrap"), ("times", "clip")):
            live = Live(Patch(TWO[0] + [("wave", ("wave", "saw", 0))], *TWO[1:]))
            live.turn("two", "x0", 100, over=10)
            live.turn("two", "x1", 0, over=10)
            live.turn("wave", "step", 10, over=10)
            live.sample({})
            live.put_part("two", part)
            self.assertEqual(live.turning(), [("wave", "step", 10, 9)])
            live.sample({})
            self.assertEqual(live.patch().part("two"), part)
            self.assertEqual(live.patch().part("wave"), ("wave", "saw", 2))

    def test_a_delay_in_a_filters_place_opens_a_ring(self):
        parts = [("a", ("delay", 1)), ("b", ("taps", (256,), "clip"))]
        live = Live(Patch(parts, [("a", "b", "in"), ("b", "a", "in")], [("o", "a")]))
        self.refused_of(Ring, ["a", "b"], live.put_part, "a", ("taps", (256,), "clip"))
        live.put_part("b", ("delay", 2))
        live.put_part("a", ("taps", (256,), "clip"))
        self.assertEqual(live.patch().order(), ["a", "b"])
        self.refused_of(Ring, ["a", "b"], live.put_part, "b", ("follow", 2))
        self.assertEqual(live.sample({}), {"o": 0})

    def test_refused(self):
        live = Live(voice())
        live.turn("gain", "up", 1, over=9)
        live.sample({"gate": 1})
        before = all_of(live)
        for thing in any_things() + ["no", "main"]:
            self.refused(NotThere, thing, live.put_part, thing, thing)
            self.refused(NotThere, thing, live.put_part, thing, SHAPE)
            self.refused(NoPart, thing, live.put_part, "gain", thing)
        for name, part in (("gain", ("follow", 1)), ("loud", ("mix", (1,), "clip")), ("key", ("wave", "saw", 1)),
                           ("tone", ("slow", "saw", 1)), ("gain", list(SHAPE)), ("gain", ("shape", 0, 1, 1, 1))):
            self.refused(NoPart, part, live.put_part, name, part)
        self.refused_of(Ring, ["echo", "sum"], live.put_part, "echo", ("follow", 1))
        self.assertEqual(all_of(live), before)


class EqualTest(SoundTest):
    def equal(self, one, other, wanted):
        self.tells_truth(one == other, wanted)
        self.tells_truth(one != other, not wanted)
        if wanted:
            self.assertEqual(one.stands(), other.stands())

    def test_of_unlike_times(self):
        one, other = two(), two()
        tells(one, 5)
        self.equal(one, other, True)
        one.turn("two", "x0", 1)
        self.equal(one, other, False)

    def test_that_folded(self):
        one, other = Live(loud()), Live(loud())
        for worth in (2000, 0):
            one.sample({"left": worth})
        self.assertNotEqual(one.foldings(), other.foldings())
        self.equal(one, other, True)

    def test_cords_in_whatever_order(self):
        one, other = Live(voice()), Live(voice())
        one.take_cord("echo", "in")
        self.equal(one, other, False)
        one.put_cord("sum", "echo", "in")
        self.assertNotEqual(one.patch().cords(), other.patch().cords())
        self.equal(one, other, True)

    def test_equal_numbers_to_come(self):
        one, other = two(), two()
        one.turn("two", "x1", 100, over=10)
        tells(one, 7)
        self.equal(one, other, False)
        other.turn("two", "x1", 100, over=3)
        self.equal(one, other, True)
        tells(one, 1)
        self.equal(one, other, False)

    def test_unlike_numbers_to_come(self):
        one, other = two(), two()
        one.turn("two", "x0", 10, over=4)
        tells(one, 1)
        other.turn("two", "x0", 2)
        other.turn("two", "x0", 10, over=3)
        self.assertEqual((one.turning(), one.patch()), (other.turning(), other.patch()))
        self.equal(one, other, False)
        self.assertEqual((tells(one, 2), tells(other, 2)), ([5, 7], [4, 7]))
        self.equal(one, other, True)

    def test_the_last_number_to_come(self):
        one, other = two(), two()
        one.turn("two", "x0", 5, over=1)
        other.turn("two", "x0", 6, over=1)
        self.equal(one, other, False)
        one.turn("two", "x0", 10, over=4)
        tells(one, 3)
        other.turn("two", "x0", 7)
        other.turn("two", "x0", 10, over=1)
        self.equal(one, other, True)
        self.assertEqual((tells(one, 2), tells(other, 2)), ([10, 10], [10, 10]))

    def test_stands_hold_nothing_that_changes(self):
        live = Live(voice())
        live.turn("tone", "step", 9, over=3)
        live.sample({"gate": 1})
        stands, key = live.stands(), hash(live.stands())
        live.sample({"gate": 1})
        self.assertEqual(hash(stands), key)

    def test_turned_otherwise(self):
        one, other = two(), two()
        one.turn("two", "x1", 100, over=3)
        for setting, number, over in (("x0", 0, 3), ("x1", 100, 2), ("x1", 99, 3)):
            third = two()
            third.turn("two", setting, number, over=over)
            self.equal(one, third, False)
        other.turn("two", "x1", 100, over=3)
        other.turn("two", "x0", 0, over=1)
        self.equal(one, other, False)
        one.turn("two", "x0", 0, over=1)
        self.equal(one, other, True)

    def test_of_any_thing(self):
        live = two()
        for thing in any_things() + [PlainMachine(Patch(*TWO)), Patch(*TWO), live.stands()]:
            self.tells_truth(live == thing, False)
            self.tells_truth(thing == live, False)

    def test_twin(self):
        for chance, lists in random_patches(33, 36):
            live, rows = Live(Patch(*lists)), random_rows(chance, 40)
            turned = [(name, setting) for name, part in lists[0] for setting in settings_of(part)]
            for name, setting in turned[:3]:
                live.turn(name, setting, 200, over=chance.choice([5, 15, 30]))
            for sample in range(10):
                live.sample(at(rows, sample))
            twin, before = live.twin(), all_of(live)
            self.assertEqual(all_of(twin), before)
            self.equal(twin, live, True)
            told = [twin.sample(at(rows, sample)) for sample in range(10, 40)]
            twin.put_part(lists[0][0][0], lists[0][0][1])
            self.assertEqual(all_of(live), before)
            self.assertEqual([live.sample(at(rows, sample)) for sample in range(10, 40)], told)

    def test_a_twin_is_turned_by_itself(self):
        live = two()
        live.turn("two", "x0", 100, over=10)
        twin = live.twin()
        twin.turn("two", "x0", 0)
        twin.take_cord("two", "a")
        self.assertEqual((tells(live, 2), tells(twin, 2)), ([10, 20], [0, 0]))


if __name__ == "__main__":
    unittest.main()
