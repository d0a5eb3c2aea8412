"""Points 41, 42, 43: the plain machine, held against a model that goes over the table part by part."""

import random
import unittest

from cordsounds.errors import NoIns, NoNumber, NoPart, NoPatch, NotThere
from cordsounds.numbers import is_worth
from cordsounds.parts import ports_of, settings_of, turned
from cordsounds.patch import Patch
from cordsounds.plain import PlainMachine, run
from cordsounds.workers import Worker
from model import Model, runs
from patches import LOUD, VOICE, at, lists_of, loud, random_patches, random_rows, voice
from things import HUGE, PARTS, SoundTest, any_things, no_ins, no_rows

TABLES = ("saw", "square", "tri", "pulse", "hump")


def all_of(machine):
    """All that a machine tells."""
    patch = machine.patch()
    worths = [machine.worth(name) for name, _ in patch.parts()]
    return lists_of(patch), machine.time(), worths, machine.foldings(), machine.stands()


def gone(patch, many, seed=1):
    """A machine that did so many samples of ins by chance."""
    machine, rows = PlainMachine(patch), random_rows(random.Random(seed), many)
    for sample in range(many):
        machine.sample(at(rows, sample))
    return machine


class SampleTest(SoundTest):
    def follows_model(self, lists, rows, many):
        machine, model = PlainMachine(Patch(*lists)), Model(*lists)
        for sample in range(many):
            told = machine.sample(at(rows, sample))
            self.assertEqual(told, model.sample(at(rows, sample)))
            self.assertEqual(list(told), [name for name, _ in lists[2]])
            self.assertEqual(machine.time(), sample + 1)
            self.assertEqual({name: machine.worth(name) for name in model.names}, model.worths)
            self.assertTrue(all(is_worth(worth) for worth in model.worths.values()))
        self.assertEqual(machine.foldings(), model.foldings())
        return machine

    def test_tells_what_the_table_tells(self):
        folded = 0
        for chance, lists in random_patches(11, 120):
            folded += len(self.follows_model(lists, random_rows(chance, 80), 80).foldings())
        self.assertGreater(folded, 30)

    def test_each_kind_alone(self):
        for seed, part in enumerate(PARTS.values()):
            cords = [("ear", "it", port) for port in ports_of(part)]
            lists = ([("it", part), ("ear", ("from", "left"))], cords, [("main", "it")])
            self.follows_model(lists, random_rows(random.Random(seed), 300), 300)

    def test_waves_and_slow_ones_of_all_tables(self):
        for table in TABLES:
            parts = [("a", ("wave", table, 333)), ("b", ("slow", table, 333)), ("c", ("wave", table, 64))]
            self.follows_model((parts, [("b", "a", "pitch")], [("x", "a"), ("y", "b"), ("z", "c")]), {}, 300)

    def test_a_little_voice(self):
        machine = PlainMachine(voice())
        told = [machine.sample({"gate": gate}) for gate in [1, 1, 1, 1, 1, 0, 0, 0]]
        # The shape goes 1000, 2000, 2047, 1547, 1047, 847, 647, 447; the saw -2048, -1984, -1920, ..
        dry = [-1000, -1937, -1919, -1402, -916, -715, -526, -349]
        self.assertEqual([worths["dry"] for worths in told], dry)
        main = [-1000, -1937, -1919]
        for sample in range(3, 8):
            main.append(max(-2048, (256 * dry[sample] + 128 * main[sample - 3] + 128) // 256))
        self.assertEqual([worths["main"] for worths in told], main)
        self.assertEqual(list(told[0]), ["main", "dry"])

    def test_names_that_lack_are_0_and_others_of_no_matter(self):
        lists = ([("a", ("from", "x")), ("b", ("from", "y"))], [], [("one", "a"), ("two", "b")])
        machine = PlainMachine(Patch(*lists))
        self.assertEqual(machine.sample({"x": 5, "z": 9, "a": 8, "one": 7}), {"one": 5, "two": 0})
        self.assertEqual(machine.sample({}), {"one": 0, "two": 0})
        self.assertEqual(machine.sample(ins={"y": -2048, "x": 2047}), {"one": 2047, "two": -2048})

    def test_many_ins_of_no_matter(self):
        names = [a + b for a in "abcdefghijklmnopqrstuvwxyz" for b in "abcdefghijklmnopqrstuvwxy"]
        machine = PlainMachine(loud())
        self.assertEqual(machine.sample({**{name: 7 for name in names[:649]}, "left": 3}), {"one": 6, "two": 3})
        self.assertEqual(run(loud(), {**{name: [7] for name in names[:649]}, "left": [3]}, 1), {"one": [6], "two": [3]})

    def test_one_in_of_two_parts_and_one_part_of_two_outs(self):
        patch = Patch([("a", ("from", "x")), ("b", ("from", "x"))], [], [("p", "b"), ("q", "a"), ("r", "b")])
        told = PlainMachine(patch).sample({"x": 4})
        self.assertEqual(list(told.items()), [("p", 4), ("q", 4), ("r", 4)])

    def test_the_order_of_keys_means_nothing(self):
        for chance, lists in random_patches(12, 12):
            rows = random_rows(chance, 60)
            other = {name: rows[name] for name in list(rows)[::-1]}
            self.assertEqual(run(Patch(*lists), rows, 60), run(Patch(*lists), other, 60))


class DelayTest(SoundTest):
    def test_ahead_of_and_behind_what_leads_to_it_and_its_reader(self):
        parts = {"ear": ("from", "x"), "line": ("delay", 3), "far": ("taps", (256, 0), "clip")}
        cords = [("ear", "line", "in"), ("line", "far", "in")]
        for names in (("ear", "line", "far"), ("line", "ear", "far"), ("far", "line", "ear"), ("far", "ear", "line")):
            patch = Patch([(name, parts[name]) for name in names], cords, [("main", "far"), ("thru", "line")])
            told = run(patch, {"x": [1, 2, 3, 4, 5]}, 9)
            self.assertEqual(told, {name: [0, 0, 0, 1, 2, 3, 4, 5, 0] for name in ("main", "thru")})

    def test_each_length(self):
        for many in range(1, 65):
            patch = Patch([("a", ("delay", many)), ("b", ("from", "x"))], [("b", "a", "in")], [("o", "a")])
            self.assertEqual(run(patch, {"x": [9, 8]}, 70), {"o": ([0] * many + [9, 8] + [0] * 70)[:70]})

    def test_one_behind_another(self):
        patch = Patch([("c", ("delay", 2)), ("b", ("delay", 1)), ("a", ("from", "x"))],
                      [("a", "b", "in"), ("b", "c", "in")], [("o", "c"), ("p", "b")])
        self.assertEqual(run(patch, {"x": [7, 6]}, 6), {"o": [0, 0, 0, 7, 6, 0], "p": [0, 7, 6, 0, 0, 0]})

    def test_on_a_ring(self):
        parts = [("line", ("delay", 2)), ("sum", ("mix", (256, -128), "clip")), ("ear", ("from", "x"))]
        cords = [("sum", "line", "in"), ("line", "sum", "b"), ("ear", "sum", "a")]
        told = run(Patch(parts, cords, [("o", "sum")]), {"x": [1000]}, 7)
        self.assertEqual(told, {"o": [1000, 0, -500, 0, 250, 0, -125]})

    def test_into_itself_and_into_each_other(self):
        patch = Patch([("a", ("delay", 1)), ("b", ("delay", 2)), ("c", ("delay", 3))],
                      [("a", "a", "in"), ("c", "b", "in"), ("b", "c", "in")], [("o", "a"), ("p", "b")])
        machine = PlainMachine(patch)
        machine.workers()["b"].sample({"in": 5})
        machine.workers()["a"].sample({"in": 9})
        self.assertEqual([machine.sample({})["p"] for _ in range(12)], [0, 5, 0, 0, 0, 0, 5, 0, 0, 0, 0, 5])
        self.assertEqual(machine.sample({})["o"], 9)


class FoldingsTest(SoundTest):
    def test_the_first_sample_of_each(self):
        machine = PlainMachine(loud())
        self.assertEqual(machine.foldings(), [])
        wanted = {0: [], 1023: [], 1024: [("near", 2)], -1025: [("near", 2)]}
        for sample, worth in enumerate((0, 1023, 1024, -1025)):
            machine.sample({"left": worth})
            self.assertEqual(machine.foldings(), wanted[worth])
        machine.sample({"left": -1024})
        self.assertEqual(machine.foldings(), [("near", 2), ("far", 4)])
        machine.sample({"left": 2047})
        self.assertEqual(machine.foldings(), [("near", 2), ("far", 4)])

    def test_by_samples_then_by_parts(self):
        for many in (1, 2, 3):
            machine = PlainMachine(loud())
            for _ in range(many):
                machine.sample({"left": 2000})
            self.assertEqual(machine.foldings(), [("near", 0), ("far", 1)][:many])
        # Here the Patch's order goes from the in on, the parts' order the other way.
        parts = [("last", ("mix", (256, 256), "clip")), ("first", ("mix", (256, 256), "clip")), ("ear", ("from", "x"))]
        cords = [(start, goal, port) for start, goal in (("ear", "first"), ("first", "last")) for port in "ab"]
        for rows in (parts, parts[::-1], parts[1:] + parts[:1]):
            machine = PlainMachine(Patch(rows, cords, [("o", "last")]))
            machine.sample({"x": 5})
            machine.sample({"x": 2000})
            self.assertEqual(machine.patch().order(), ["ear", "first", "last"])
            self.assertEqual(machine.foldings(), [(name, 1) for name, _ in rows if name != "ear"])

    def test_just_at_the_width(self):
        for manner in ("clip", "wrap", "fold"):
            parts = [("a", ("mix", (256, 256), manner)), ("b", ("times", manner)), ("ear", ("from", "x"))]
            patch = Patch(parts, [("ear", "a", "a"), ("ear", "b", "a"), ("ear", "b", "b")], [("o", "a")])
            machine = PlainMachine(patch)
            for worth in (2047, -2047, 0):
                machine.sample({"x": worth})
            self.assertEqual(machine.foldings(), [])
            machine.sample({"x": -2048})
            self.assertEqual(machine.foldings(), [("b", 3)])

    def test_a_follower_of_the_least_worth_did_not_fold(self):
        patch = Patch([("a", ("follow", 1)), ("ear", ("from", "x"))], [("ear", "a", "in")], [("o", "a")])
        machine = PlainMachine(patch)
        self.assertEqual(machine.sample({"x": -2048}), {"o": 2047})
        self.assertEqual(machine.foldings(), [])


class ToldTest(SoundTest):
    def test_ahead_of_the_first_sample(self):
        machine = PlainMachine(patch=voice())
        stands = tuple(Worker(part).stands() for _, part in VOICE[0])
        self.assertEqual(all_of(machine), (VOICE, 0, [0] * 6, [], stands))
        self.assertIs(machine.stands().__class__, tuple)

    def test_patch_and_worths(self):
        machine = PlainMachine(voice())
        told = machine.sample({"gate": 1})
        self.assertEqual(machine.patch(), voice())
        self.assertEqual(machine.worth("sum"), told["main"])
        self.assertEqual(machine.worth(name="gain"), 1000)
        self.assertEqual(machine.worth("key"), 1)
        for thing in any_things() + ["main", "gate", "no"]:
            self.refused(NotThere, thing, machine.worth, thing)

    def test_what_is_told_is_new(self):
        machine = gone(loud(), 20)
        for tell in (machine.foldings, machine.patch().parts):
            told = tell()
            told.append("other")
            self.assertEqual(tell(), told[:-1])
        told = machine.sample({"left": 5})
        before = all_of(machine)
        told.clear()
        self.assertEqual(all_of(machine), before)

    def test_stands_as_its_workers_do(self):
        for _, lists in random_patches(13, 24):
            machine = gone(Patch(*lists), 30)
            workers = machine.workers()
            self.assertEqual(machine.stands(), tuple(workers[name].stands() for name, _ in lists[0]))
            self.assertEqual(hash(machine.stands()), hash(machine.twin().stands()))

    def test_ins_are_not_changed(self):
        ins = {"left": 5, "no": 7}
        machine = PlainMachine(loud())
        machine.sample(ins)
        self.assertEqual(ins, {"left": 5, "no": 7})

    def test_twin(self):
        for chance, lists in random_patches(14, 36):
            machine = gone(Patch(*lists), 25, chance.randint(1, 9))
            twin = machine.twin()
            self.assertEqual(all_of(twin), all_of(machine))
            self.tells_truth(twin == machine, True)
            before, rows = all_of(machine), random_rows(chance, 30)
            told = [twin.sample(at(rows, sample)) for sample in range(30)]
            self.assertEqual(all_of(machine), before)
            self.assertEqual([machine.sample(at(rows, sample)) for sample in range(30)], told)
            self.assertEqual(all_of(machine), all_of(twin))

    def test_twin_of_one_that_folded(self):
        machine = PlainMachine(loud())
        machine.sample({"left": 2000})
        twin = machine.twin()
        self.assertEqual(twin.foldings(), [("near", 0)])
        twin.sample({"left": 2000})
        self.assertEqual((machine.foldings(), twin.foldings()), ([("near", 0)], [("near", 0), ("far", 1)]))


class EqualTest(SoundTest):
    def test_of_unlike_times_and_foldings(self):
        one, other = PlainMachine(loud()), PlainMachine(loud())
        one.sample({"left": 2000})
        one.sample({})
        self.tells_truth(one == other, True)
        self.tells_truth(one != other, False)
        self.assertNotEqual((one.time(), one.foldings()), (other.time(), other.foldings()))
        one.sample({"left": 7})
        self.tells_truth(one == other, False)
        self.tells_truth(one != other, True)
        self.assertNotEqual(one.stands(), other.stands())

    def test_of_unlike_patches(self):
        parts, cords, outs = LOUD
        self.tells_truth(PlainMachine(loud()) == PlainMachine(Patch(parts, cords[::-1], outs)), True)
        for other in ((parts[::-1], cords, outs), (parts, cords[1:], outs), (parts, cords, outs[::-1]),
                      (parts[:2] + [("ear", ("from", "right"))], cords, outs)):
            self.tells_truth(PlainMachine(loud()) == PlainMachine(Patch(*other)), False)

    def test_of_unlike_stands(self):
        for _, lists in random_patches(15, 36):
            one, other = gone(Patch(*lists), 20, 3), gone(Patch(*lists), 21, 4)
            self.tells_truth(one == other, one.stands() == other.stands())
            self.tells_truth(one == gone(Patch(*lists), 20, 3), True)

    def test_of_any_thing(self):
        machine = PlainMachine(voice())
        for thing in any_things() + [voice(), machine.stands(), machine.workers()]:
            self.tells_truth(machine == thing, False)
            self.tells_truth(thing == machine, False)


class RefusedTest(SoundTest):
    def test_no_patch(self):
        for thing in any_things() + [VOICE, [VOICE[0]], Patch]:
            if not isinstance(thing, Patch):
                self.refused(NoPatch, thing, PlainMachine, thing)
                self.refused(NoPatch, thing, run, thing, None, None)

    def test_no_ins_change_nothing(self):
        machine = gone(loud(), 7)
        before = all_of(machine)
        for thing in no_ins():
            self.refused(NoIns, thing, machine.sample, thing)
            self.assertEqual(all_of(machine), before)
        self.assertEqual(machine.sample({"left": 3, "abcdefgh": 2047})["one"], 6)


class RunTest(SoundTest):
    def test_tells_what_the_table_tells(self):
        for chance, lists in random_patches(16, 120):
            many = chance.choice([1, 2, 50, 120])
            rows = random_rows(chance, many)
            told = run(Patch(*lists), rows, many)
            self.assertEqual(told, runs(*lists, rows, many)[0])
            self.assertEqual(list(told), [name for name, _ in lists[2]])

    def test_600_samples(self):
        for chance, lists in random_patches(17, 12):
            rows = random_rows(chance, 600)
            self.assertEqual(run(Patch(*lists), rows, 600), runs(*lists, rows, 600)[0])

    def test_of_none(self):
        told = run(voice(), {"gate": [1]}, 0)
        self.assertEqual(told, {"main": [], "dry": []})
        self.assertIsNot(told["main"], told["dry"])

    def test_ins_short_and_long_and_tuples(self):
        patch = Patch([("a", ("from", "x")), ("b", ("from", "y"))], [], [("o", "a"), ("p", "b")])
        self.assertEqual(run(patch, {"x": (1, 2), "y": [1] * 650}, 4), {"o": [1, 2, 0, 0], "p": [1] * 4})
        self.assertEqual(run(patch, {"x": [], "z": [5]}, 2), {"o": [0, 0], "p": [0, 0]})
        self.assertEqual(run(many=1, ins={}, patch=patch), {"o": [0], "p": [0]})

    def test_outs_of_one_part_have_lists_of_their_own(self):
        patch = Patch([("a", ("from", "x"))], [], [("o", "a"), ("p", "a")])
        told = run(patch, {"x": [1]}, 2)
        self.assertIsNot(told["o"], told["p"])
        self.assertEqual(told, {"o": [1, 0], "p": [1, 0]})

    def test_what_is_handed_in_is_not_changed(self):
        rows = {"left": [1, 2], "no": (3,)}
        told = run(Patch([("a", ("from", "left"))], [], [("o", "a")]), rows, 2)
        told["o"].append(9)
        self.assertEqual(rows, {"left": [1, 2], "no": (3,)})

    def test_begins_anew_each_time(self):
        patch = voice()
        self.assertEqual(run(patch, {"gate": [1] * 9}, 20), run(patch, {"gate": [1] * 9}, 20))

    def test_refused(self):
        for thing in no_rows():
            self.refused(NoIns, thing, run, voice(), thing, None)
        for thing in any_things() + [-1, 601, "1", [1], HUGE, -HUGE]:
            self.refused(NoNumber, thing, run, voice(), {}, thing)

    def test_in_their_order(self):
        self.refused(NoPatch, 5, run, 5, 5, -1)
        self.refused(NoPatch, 5, run, 5, {}, 1)
        self.refused(NoIns, 5, run, voice(), 5, -1)


class ForOtherStagesTest(SoundTest):
    def test_workers_are_the_very_ones(self):
        machine = PlainMachine(voice())
        workers = machine.workers()
        self.assertEqual(sorted(workers), sorted(name for name, _ in VOICE[0]))
        for name, part in VOICE[0]:
            self.assertIs(workers[name], machine.workers()[name])
            self.assertEqual(workers[name].part(), part)
        workers["tone"].sample({"pitch": 1024})
        self.assertEqual(machine.stands()[2], (("wave", "saw", 64), 128))
        machine.sample({})
        self.assertEqual(workers["tone"].stands(), (("wave", "saw", 64), 192))

    def test_another_patch_of_the_same_kinds(self):
        machine = gone(voice(), 9)
        before, worths = machine.stands(), [machine.worth(name) for name, _ in VOICE[0]]
        patch = voice().with_part("loud", ("times", "clip")).with_part("gain", ("shape", 1, 2, 3, 4))
        patch = patch.with_part("sum", ("mix", (1, 2), "wrap")).with_part("key", ("from", "other"))
        patch = patch.with_part("tone", ("wave", "tri", 9)).without_cord("echo", "in")
        self.assertIsNone(machine.re_patch(patch=patch))
        self.assertEqual(lists_of(machine.patch()), lists_of(patch))
        self.assertEqual([stands[1:] for stands in machine.stands()], [stands[1:] for stands in before])
        self.assertEqual([stands[0] for stands in machine.stands()], [part for _, part in patch.parts()])
        self.assertEqual((machine.time(), [machine.worth(name) for name, _ in VOICE[0]]), (9, worths))

    def test_sounds_on_as_the_other_patch(self):
        for chance, lists in random_patches(18, 36):
            machine, model = PlainMachine(Patch(*lists)), Model(*lists)
            rows = random_rows(chance, 60)
            for sample in range(60):
                if sample in (20, 40):
                    machine.re_patch(self.changed(chance, machine.patch(), model))
                self.assertEqual(machine.sample(at(rows, sample)), model.sample(at(rows, sample)))
            self.assertEqual(machine.foldings(), model.foldings())

    def changed(self, chance, patch, model):
        """The patch with other settings, without some cord, both in the model, too."""
        for name, part in patch.parts():
            for setting in settings_of(part):
                patch = patch.with_part(name, turned(patch.part(name), setting, chance.randint(1, 256)))
                model.parts[name] = patch.part(name)
        for _, goal, port in patch.cords()[:1]:
            patch = patch.without_cord(goal, port)
            del model.cords[(goal, port)]
        return patch

    def test_a_twin_has_workers_of_its_own(self):
        machine = PlainMachine(voice())
        twin = machine.twin()
        twin.re_patch(voice().with_part("tone", ("wave", "saw", 1)))
        for name in machine.workers():
            self.assertIsNot(machine.workers()[name], twin.workers()[name])
        self.assertEqual(machine.patch(), voice())
        self.assertEqual(machine.stands()[2][0], ("wave", "saw", 64))
        with self.assertRaises(NoPart):
            machine.workers()["tone"].give(("noise", 1))


if __name__ == "__main__":
    unittest.main()
