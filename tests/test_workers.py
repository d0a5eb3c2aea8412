"""Points 3, 22, 23: parts of all ten kinds at work."""

import random
import unittest

from cordsounds.errors import NoIns, NoPart
from cordsounds.numbers import folded, is_worth, table_worth
from cordsounds.parts import ports_of
from cordsounds.workers import Worker
from things import PARTS, SoundTest, any_things

EDGES = [-2048, -2047, -17, -16, -1, 0, 1, 15, 16, 17, 2046, 2047]
SHAPE = ("shape", 1000, 500, 300, 200)
WORDS = {"rest": [], "up": [1], "down": [1, 1, 1], "stay": [1] * 7, "away": [1, 0]}


def worths(many, seed):
    """So many worths, edges often among them, the same ones each time."""
    chance = random.Random(seed)
    return [chance.choice(EDGES + [chance.randint(-2048, 2047)] * 6) for _ in range(many)]


def run(part, port, rows):
    """What a new Worker tells of these worths of one port."""
    worker = Worker(part)
    return [worker.sample({port: worth}) for worth in rows]


def ins_of(part, seed, many):
    """Ins of all ports, or of the in of a from, for so many samples."""
    names = (part[1],) if part[0] == "from" else ports_of(part)
    rows = [worths(many, seed + at) for at in range(len(names))]
    return [{name: row[at] for name, row in zip(names, rows)} for at in range(many)]


def gone(part, many, seed=1):
    """A Worker that did so many samples."""
    worker = Worker(part)
    for ins in ins_of(part, seed, many):
        worker.sample(ins)
    return worker


def shape_at(word):
    """A Worker of SHAPE that is at this word."""
    worker = Worker(SHAPE)
    for gate in WORDS[word]:
        worker.sample({"gate": gate})
    return worker


class FromTest(SoundTest):
    def test_tells_its_in(self):
        worker = Worker(("from", "left"))
        for worth in EDGES:
            self.assertEqual(worker.sample({"left": worth, "right": 9, "in": 8}), worth)
        self.assertEqual(worker.sample({"right": 9}), 0)
        self.assertEqual(worker.sample({}), 0)
        self.assertEqual(worker.stands(), (("from", "left"),))


class WaveTest(SoundTest):
    def test_goes_on_by_step_and_pitch(self):
        for table in ("saw", "square", "tri", "pulse", "hump"):
            for step in (0, 1, 100, 2048):
                pitches = worths(600, step)
                phases = [sum([step + pitch // 16 for pitch in pitches[:at]]) % 4096 for at in range(600)]
                wanted = [table_worth(table, phase // 64) for phase in phases]
                self.assertEqual(run(("wave", table, step), "pitch", pitches), wanted)

    def test_pitch_of_a_sample_sounds_at_the_next_one(self):
        self.assertEqual(run(("wave", "saw", 0), "pitch", [1024, 0, -1, 0, 2047, 0]),
                         [-2048, -1984, -1984, -2048, -2048, -1920])

    def test_pitch_below_sixteen_steps(self):
        worker = Worker(("wave", "saw", 0))
        for pitch, phase in ((15, 0), (16, 1), (17, 2), (-1, 1), (-16, 0), (-17, 4094), (-2048, 3966), (2047, 4093)):
            worker.sample({"pitch": pitch})
            self.assertEqual(worker.stands(), (("wave", "saw", 0), phase))

    def test_turns_over_at_the_end_of_its_table(self):
        worker = Worker(("wave", "tri", 2048))
        self.assertEqual([worker.sample({}) for _ in range(4)], [-2048, 2047, -2048, 2047])
        self.assertIsNone(worker.ahead())


class SlowTest(SoundTest):
    def test_goes_on_behind_each_sixteenth_sample(self):
        for table, step in (("saw", 100), ("hump", 2048), ("tri", 1), ("pulse", 0)):
            worker = Worker(("slow", table, step))
            for at in range(600):
                phase = step * (at // 16) % 4096
                self.assertEqual(worker.stands(), (("slow", table, step), phase, at % 16))
                self.assertEqual(worker.ahead(), table_worth(table, phase // 64))
                self.assertEqual(worker.sample({"pitch": 2047}), table_worth(table, phase // 64))


class NoiseTest(SoundTest):
    def test_tells_its_states(self):
        for seed in (0, 7, 4095):
            worker, state = Worker(("noise", seed)), seed
            for _ in range(600):
                self.assertEqual(worker.stands(), (("noise", seed), state))
                self.assertEqual(worker.ahead(), state - 2048)
                self.assertEqual(worker.sample({}), state - 2048)
                state = (1229 * state + 351) % 4096


class ShapeTest(SoundTest):
    def follows(self, part, gates, wanted):
        worker = Worker(part)
        for gate, stands in zip(gates, wanted):
            self.assertEqual(worker.sample({"gate": gate}), stands[0])
            self.assertEqual(worker.stands(), (part,) + stands)

    def test_all_its_way(self):
        self.assertEqual(Worker(SHAPE).stands(), (SHAPE, 0, "rest"))
        wanted = [(0, "rest"), (1000, "up"), (2000, "up"), (2047, "down"), (1547, "down"), (1047, "down"),
                  (547, "down"), (300, "stay"), (300, "stay"), (100, "away"), (0, "rest"), (0, "rest"), (1000, "up")]
        self.follows(SHAPE, [0] + [1] * 8 + [0] * 3 + [1], wanted)

    def test_gate_on_at_each_word(self):
        for word, stands in (("rest", (1000, "up")), ("up", (2000, "up")), ("down", (1547, "down")),
                             ("stay", (300, "stay")), ("away", (1800, "up"))):
            for gate in (1, 2047):
                worker = shape_at(word)
                self.assertEqual(worker.stands()[2], word)
                self.assertEqual(worker.sample({"gate": gate}), stands[0])
                self.assertEqual(worker.stands(), (SHAPE,) + stands)

    def test_gate_off_at_each_word(self):
        for word, stands in (("rest", (0, "rest")), ("up", (800, "away")), ("down", (1847, "away")),
                             ("stay", (100, "away")), ("away", (600, "away"))):
            for ins in ({"gate": 0}, {"gate": -1}, {"gate": -2048}, {}, {"in": 1}):
                worker = shape_at(word)
                self.assertEqual(worker.sample(ins), stands[0])
                self.assertEqual(worker.stands(), (SHAPE,) + stands)

    def test_just_at_its_ends_and_one_short(self):
        self.follows(("shape", 2046, 2046, 1, 1), [1, 1, 1, 1, 0, 0],
                     [(2046, "up"), (2047, "down"), (1, "stay"), (1, "stay"), (0, "rest"), (0, "rest")])
        self.follows(("shape", 2047, 1023, 0, 1023), [1, 1, 1, 1, 0], [
            (2047, "down"), (1024, "down"), (1, "down"), (0, "stay"), (0, "rest")])
        self.follows(("shape", 2045, 1, 0, 2044), [1, 0, 0, 0], [(2045, "up"), (1, "away"), (0, "rest"), (0, "rest")])

    def test_stays_at_the_top_and_at_nothing(self):
        self.follows(("shape", 2047, 1, 2047, 2047), [1, 1, 1, 0, 0],
                     [(2047, "down"), (2047, "stay"), (2047, "stay"), (0, "rest"), (0, "rest")])
        self.follows(("shape", 2047, 2047, 0, 1), [1, 1, 1, 0, 1],
                     [(2047, "down"), (0, "stay"), (0, "stay"), (0, "rest"), (2047, "down")])

    def test_a_short_gate(self):
        self.follows(("shape", 100, 1, 0, 30), [1, 0, 0, 1, 0, 0, 0, 0, 0],
                     [(100, "up"), (70, "away"), (40, "away"), (140, "up"), (110, "away"), (80, "away"),
                      (50, "away"), (20, "away"), (0, "rest")])

    def test_other_settings_amid(self):
        for word, gate, stands in (("up", 1, (1007, "up")), ("down", 1, (2036, "down")), ("stay", 1, (900, "stay")),
                                   ("away", 0, (787, "away")), ("rest", 0, (0, "rest")), ("rest", 1, (7, "up")),
                                   ("up", 0, (987, "away")), ("stay", 0, (287, "away"))):
            worker, other = shape_at(word), ("shape", 7, 11, 900, 13)
            before = worker.stands()
            worker.give(other)
            self.assertEqual(worker.stands(), (other,) + before[1:])
            self.assertEqual(worker.sample({"gate": gate}), stands[0])
            self.assertEqual(worker.stands(), (other,) + stands)

    def test_a_stay_above_its_level_amid(self):
        worker = shape_at("down")
        worker.sample({"gate": 1})
        worker.give(("shape", 1, 1, 2000, 1))
        self.assertEqual(worker.sample({"gate": 1}), 2000)
        self.assertEqual(worker.stands()[2], "stay")


class TapsTest(SoundTest):
    def test_sums_what_came_ahead(self):
        for manner in ("clip", "wrap", "fold"):
            for factors in ((256,), (0, 256), (64, -128, 256), (256, -256, 255, 1, -1, 0, 128, -255), (-256,) * 8):
                part, rows = ("taps", factors, manner), worths(600, len(factors))
                worker, many = Worker(part), len(factors)
                for at, worth in enumerate(rows):
                    got = ([0] * many + rows[:at + 1])[::-1][:many]
                    number = (sum([f * w for f, w in zip(factors, got)]) + 128) // 256
                    self.assertEqual(worker.sample({"in": worth}), folded(number, manner))
                    self.tells_truth(worker.was_folded(), not is_worth(number))
                    self.assertEqual(worker.stands(), (part, tuple(got[:-1])))

    def test_how_a_new_one_stands(self):
        for many in range(1, 9):
            part = ("taps", (5,) * many, "clip")
            self.assertEqual(Worker(part).stands(), (part, (0,) * (many - 1)))

    def test_halves_go_upward(self):
        self.assertEqual(run(("taps", (128,), "clip"), "in", [1, -1, 3, -3]), [1, 0, 2, -1])
        self.assertEqual(run(("taps", (127,), "clip"), "in", [1, -1, 3, -3]), [0, 0, 1, -1])


class MixTest(SoundTest):
    def test_sums_its_ports(self):
        for manner in ("clip", "wrap", "fold"):
            for factors in ((256,), (256, -256), (1, 255, -255), (256, -256, 256, 128)):
                part = ("mix", factors, manner)
                worker = Worker(part)
                for ins in ins_of(part, 5, 600):
                    got = [ins[port] for port in "abcd"[:len(factors)]]
                    number = (sum([f * w for f, w in zip(factors, got)]) + 128) // 256
                    self.assertEqual(worker.sample(ins), folded(number, manner))
                    self.tells_truth(worker.was_folded(), not is_worth(number))
                self.assertEqual(worker.stands(), (part,))

    def test_ports_that_lack_are_nothing_and_others_no_matter(self):
        worker = Worker(("mix", (256, 256), "clip"))
        self.assertEqual(worker.sample({"b": 5, "c": 100, "in": 100, "d": 100}), 5)
        self.assertEqual(worker.sample({"b": 5, "a": 7}), 12)
        self.assertEqual(worker.sample({"a": 7, "b": 5}), 12)
        self.assertEqual(worker.sample({}), 0)

    def test_both_ends_of_the_width(self):
        for manner, high, low in (("clip", 2047, -2048), ("wrap", -2048, 2047), ("fold", 2047, -2048)):
            worker = Worker(("mix", (256, 256), manner))
            for a, b, wanted, was in ((2047, 0, 2047, False), (2047, 1, high, True), (-2048, 0, -2048, False),
                                      (-2048, -1, low, True)):
                self.assertEqual(worker.sample({"a": a, "b": b}), wanted)
                self.tells_truth(worker.was_folded(), was)


class TimesTest(SoundTest):
    def test_multiplies(self):
        for manner in ("clip", "wrap", "fold"):
            worker = Worker(("times", manner))
            for a in EDGES:
                for b in EDGES:
                    number = (a * b + 1024) // 2048
                    self.assertEqual(worker.sample({"a": a, "b": b}), folded(number, manner))
                    self.tells_truth(worker.was_folded(), (a, b) == (-2048, -2048))

    def test_the_one_product_beyond(self):
        for manner, wanted in (("clip", 2047), ("wrap", -2048), ("fold", 2047)):
            worker = Worker(("times", manner))
            self.assertEqual(worker.sample({"a": -2048, "b": -2048}), wanted)
            self.tells_truth(worker.was_folded(), True)
            self.assertEqual(worker.sample({"a": -2048}), 0)
            self.tells_truth(worker.was_folded(), False)
            self.assertEqual(worker.stands(), (("times", manner),))

    def test_halves_go_upward(self):
        worker = Worker(("times", "clip"))
        told = [worker.sample({"a": 1024, "b": b}) for b in (1, -1, 3, -3)]
        self.assertEqual(told, [1, 0, 2, -1])


class DelayTest(SoundTest):
    def test_tells_what_came_so_many_samples_ago(self):
        for many in (1, 2, 3, 63, 64):
            part, rows = ("delay", many), worths(300, many)
            worker, wanted = Worker(part), [0] * many + rows
            for at, worth in enumerate(rows):
                self.assertEqual(worker.stands(), (part, tuple(wanted[at:at + many])))
                self.assertEqual(worker.ahead(), wanted[at])
                self.assertEqual(worker.sample({"in": worth}), wanted[at])

    def test_an_in_that_lacks_is_nothing(self):
        worker = Worker(("delay", 1))
        self.assertEqual([worker.sample(ins) for ins in ({"in": 5}, {"a": 6}, {})], [0, 5, 0])


class FollowTest(SoundTest):
    def test_follows_and_falls(self):
        for step in (1, 10, 2047):
            rows, part = worths(300, step), ("follow", step)
            worker = Worker(part)
            for at, worth in enumerate(rows):
                wanted = max([0] + [min(2047, abs(rows[k])) - step * (at - k) for k in range(at + 1)])
                self.assertEqual(worker.sample({"in": worth}), wanted)
                self.assertEqual(worker.stands(), (part, wanted))
                self.tells_truth(worker.was_folded(), False)

    def test_ends_of_the_width_and_of_the_fall(self):
        self.assertEqual(run(("follow", 1000), "in", [-2048, 0, 0, 0, 0, -47, 46, 2047]),
                         [2047, 1047, 47, 0, 0, 47, 46, 2047])


class WorkerTest(SoundTest):
    def test_a_new_one_of_each_kind(self):
        wanted = {"from": (), "wave": (0,), "slow": (0, 0), "noise": (7,), "shape": (0, "rest"), "taps": ((0, 0),),
                  "mix": (), "times": (), "delay": ((0, 0, 0),), "follow": (0,)}
        for kind, part in PARTS.items():
            worker = Worker(part=part)
            self.assertEqual(worker.part(), part)
            self.assertEqual(worker.stands(), (part,) + wanted[kind])
            self.assertIsInstance(worker.stands(), tuple)
            self.tells_truth(worker.was_folded(), False)

    def test_what_is_told_ahead(self):
        wanted = {"slow": -2048, "noise": 7 - 2048, "delay": 0}
        for kind, part in PARTS.items():
            self.assertEqual(Worker(part).ahead(), wanted.get(kind))
            worker = gone(part, 50)
            ahead = worker.ahead()
            self.assertEqual(ahead is None, kind not in wanted)
            if ahead is not None:
                self.assertEqual(ahead, worker.ahead())
                self.assertEqual(ahead, worker.sample({}))

    def test_asking_changes_nothing(self):
        for part in PARTS.values():
            worker, other = gone(part, 20), gone(part, 20)
            for _ in range(3):
                answers = (worker.part(), worker.ahead(), worker.was_folded(), worker.stands(), worker == other)
                self.assertEqual(answers, (other.part(), other.ahead(), other.was_folded(), other.stands(), True))
            worker.twin().sample({})
            self.assertEqual(worker.stands(), other.stands())

    def test_made_alike_and_having_done_the_same(self):
        for part in PARTS.values():
            one, other = Worker(part), Worker(part)
            for ins in ins_of(part, 3, 200):
                turned_round = {name: ins[name] for name in reversed(list(ins))}
                self.assertEqual(one.sample(ins), other.sample(turned_round))
                self.assertTrue(is_worth(one.ahead() or 0))
                self.assertEqual(one.stands(), other.stands())

    def test_ins_are_not_changed_nor_kept(self):
        for part in PARTS.values():
            worker, other = gone(part, 9), gone(part, 9)
            ins = dict(ins_of(part, 4, 1)[0], gate=1)
            before = dict(ins)
            self.assertEqual(worker.sample(ins=ins), other.sample(before))
            self.assertEqual(ins, before)
            ins.clear()
            self.assertEqual(worker.stands(), other.stands())

    def test_only_a_sample_that_folds_was_folded(self):
        for part in (("taps", (256, 256), "clip"), ("mix", (256, 256), "wrap"), ("times", "fold")):
            worker = Worker(part)
            loud, soft = {"in": -2048, "a": -2048, "b": -2048}, {"in": 0}
            worker.sample(loud)
            worker.sample(loud)
            self.tells_truth(worker.was_folded(), True)
            self.tells_truth(worker.was_folded(), True)
            worker.sample(soft)
            self.tells_truth(worker.was_folded(), False)
        for kind in ("from", "wave", "slow", "noise", "shape", "delay", "follow"):
            worker = Worker(PARTS[kind])
            for ins in ins_of(PARTS[kind], 6, 100):
                worker.sample(ins)
                self.tells_truth(worker.was_folded(), False)


class GiveTest(SoundTest):
    GIVEN = [
        (("from", "left"), ("from", "right")), (("wave", "saw", 100), ("wave", "tri", 7)),
        (("slow", "tri", 100), ("slow", "pulse", 2048)), (("noise", 7), ("noise", 4095)),
        (SHAPE, ("shape", 1, 2, 3, 4)), (("taps", (64, -128, 256), "clip"), ("taps", (1, 2, -3), "fold")),
        (("mix", (256, -256), "wrap"), ("mix", (0, 9), "clip")), (("times", "fold"), ("times", "clip")),
        (("delay", 3), ("delay", 3)), (("follow", 10), ("follow", 2047)),
    ]

    def test_takes_another_part_and_keeps_all_else(self):
        for part, other in self.GIVEN:
            worker = gone(part, 37)
            before, was = worker.stands(), worker.was_folded()
            self.assertIsNone(worker.give(part=other))
            self.assertEqual(worker.part(), other)
            self.assertEqual(worker.stands(), (other,) + before[1:])
            self.tells_truth(worker.was_folded(), was)
            worker.give(part)
            self.assertEqual(worker.stands(), before)

    def test_sounds_by_the_new_part(self):
        worker = Worker(("wave", "saw", 64))
        worker.sample({})
        worker.give(("wave", "hump", 128))
        self.assertEqual([worker.sample({}) for _ in range(3)], [248, 696, 1080])
        worker = Worker(("taps", (0, 256), "clip"))
        worker.sample({"in": 2000})
        worker.give(("taps", (0, 128), "clip"))
        self.assertEqual(worker.sample({"in": 9}), 1000)
        worker = Worker(("noise", 7))
        worker.give(("noise", 9))
        self.assertEqual([worker.ahead(), worker.sample({}), worker.ahead()], [-2041, -2041, 8954 % 4096 - 2048])
        worker = Worker(("from", "left"))
        worker.give(("from", "right"))
        self.assertEqual(worker.sample({"left": 1, "right": 2}), 2)
        worker = Worker(("follow", 1))
        worker.sample({"in": 100})
        worker.give(("follow", 30))
        self.assertEqual(worker.sample({}), 70)

    def test_a_folded_sample_stays_one(self):
        worker = Worker(("times", "clip"))
        worker.sample({"a": -2048, "b": -2048})
        worker.give(("times", "wrap"))
        self.tells_truth(worker.was_folded(), True)

    def test_slow_ones_keep_where_they_are(self):
        worker = Worker(("slow", "saw", 64))
        for _ in range(20):
            worker.sample({})
        worker.give(("slow", "saw", 640))
        self.assertEqual(worker.stands(), (("slow", "saw", 640), 64, 4))
        self.assertEqual([worker.sample({}) for _ in range(13)], [-1984] * 12 + [704 - 2048])

    def test_refused(self):
        wrong = any_things() + [("taps", (1, 2), "clip"), ("taps", (1, 2, 3, 4), "clip"), ("mix", (1,), "wrap"),
                                ("mix", (1, 2, 3), "wrap"), ("delay", 2), ("delay", 4), ("delay", 65)]
        for kind, part in PARTS.items():
            worker, other = gone(part, 30), gone(part, 30)
            others = [given for word, given in PARTS.items() if word != kind]
            for thing in wrong + others + [list(part), part + (1,), part[:-1]]:
                self.refused(NoPart, thing, worker.give, thing)
            self.assertEqual(worker.stands(), other.stands())
            self.tells_truth(worker.was_folded(), other.was_folded())
            self.assertIs(worker.part(), part)


class RefusedTest(SoundTest):
    def test_made_of_what_is_no_part(self):
        for thing in any_things() + [list(PARTS["wave"]), ("wave", "saw", 2049), ("delay", True), ("taps", [1], "clip"),
                                     Worker(PARTS["wave"])]:
            self.refused(NoPart, thing, Worker, thing)
            self.refused(NoPart, thing, Worker, part=thing)

    def test_ins_that_are_none(self):
        nine = {name: 0 for name in "abcdefghi"}
        wrong = [{"in": 2048}, {"in": -2049}, {"in": True}, {"in": None}, {"in": "0"}, {"in": [0]}, {"a": 0, "b": None},
                 {"IN": 0}, {"": 0}, {"abcdefghi": 0}, {1: 0}, {True: 0}, {("in",): 0}, {"x0": 0}, {"in": 10 ** 29},
                 nine, [("in", 0)], (("in", 0),), ["in"], {"in": Worker(("noise", 1))}]
        for part in PARTS.values():
            worker, other = gone(part, 30), gone(part, 30)
            for thing in any_things() + wrong:
                if thing == {}:
                    continue
                self.refused(NoIns, thing, worker.sample, thing)
                self.refused(NoIns, thing, worker.sample, ins=thing)
            self.assertEqual(worker.stands(), other.stands())
            self.tells_truth(worker.was_folded(), other.was_folded())

    def test_a_refusal_leaves_a_folded_sample_one(self):
        worker = Worker(("times", "clip"))
        worker.sample({"a": -2048, "b": -2048})
        self.refused(NoIns, None, worker.sample, None)
        self.tells_truth(worker.was_folded(), True)

    def test_eight_names_are_not_too_many(self):
        worker = Worker(("from", "h"))
        self.assertEqual(worker.sample({name: at for at, name in enumerate("abcdefgh")}), 7)


class TwinTest(SoundTest):
    def test_tells_all_and_goes_its_own_way(self):
        for part in PARTS.values():
            for many in (0, 1, 40):
                worker = gone(part, many)
                twin, before = worker.twin(), worker.stands()
                self.assertIs(twin.__class__, Worker)
                self.assertEqual((twin.part(), twin.ahead(), twin.was_folded(), twin.stands()),
                                 (worker.part(), worker.ahead(), worker.was_folded(), worker.stands()))
                self.tells_truth(twin == worker, True)
                told = [twin.sample(ins) for ins in ins_of(part, 8, 60)]
                self.assertEqual(worker.stands(), before)
                self.assertEqual([worker.sample(ins) for ins in ins_of(part, 8, 60)], told)

    def test_a_folded_sample_is_told_by_the_twin_too(self):
        worker = Worker(("times", "clip"))
        worker.sample({"a": -2048, "b": -2048})
        twin = worker.twin()
        self.tells_truth(twin.was_folded(), True)
        twin.sample({})
        self.tells_truth(worker.was_folded(), True)

    def test_giving_to_a_twin(self):
        worker = Worker(("wave", "saw", 1))
        twin = worker.twin()
        twin.give(("wave", "saw", 2))
        self.assertEqual((worker.part(), twin.part()), (("wave", "saw", 1), ("wave", "saw", 2)))


class EqualTest(SoundTest):
    def test_equal_where_they_stand_so(self):
        for part in PARTS.values():
            self.tells_truth(Worker(part) == Worker(part), True)
            self.tells_truth(Worker(part) != Worker(part), False)
            self.tells_truth(gone(part, 33) == gone(part, 33), True)
        for kind, ins in (("wave", {}), ("slow", {}), ("noise", {}), ("shape", {"gate": 1}), ("taps", {"in": 1}),
                          ("delay", {"in": 1}), ("follow", {"in": 1})):
            worker = Worker(PARTS[kind])
            worker.sample(ins)
            self.tells_truth(worker == Worker(PARTS[kind]), False)
            self.tells_truth(worker != Worker(PARTS[kind]), True)

    def test_unlike_parts_are_unlike(self):
        for kind, part in PARTS.items():
            for other, given in PARTS.items():
                self.tells_truth(Worker(part) == Worker(given), kind == other)
        self.tells_truth(Worker(("noise", 1)) == Worker(("noise", 2)), False)
        given = Worker(("noise", 1))
        given.give(("noise", 2))
        self.tells_truth(given == Worker(("noise", 2)), False)
        given = Worker(("wave", "saw", 1))
        given.give(("wave", "saw", 2))
        self.tells_truth(given == Worker(("wave", "saw", 2)), True)

    def test_whether_it_was_folded_is_no_matter(self):
        worker = Worker(("times", "clip"))
        worker.sample({"a": -2048, "b": -2048})
        self.tells_truth(worker == Worker(("times", "clip")), True)

    def test_no_other_thing_is_equal(self):
        for part in PARTS.values():
            worker = Worker(part)
            for thing in any_things() + [part, worker.stands(), list(worker.stands())]:
                self.tells_truth(worker == thing, False)
                self.tells_truth(worker != thing, True)
                self.tells_truth(thing == worker, False)


if __name__ == "__main__":
    unittest.main()
