"""Points 102, 103, 104, 105: parts unheard and steady, smaller Patches, and Patches that part."""

import unittest
from itertools import product

from cordsounds.blocks import BlockMachine
from cordsounds.errors import NoNumber, NoOut, NoPatch, TooMany
from cordsounds.live import Live
from cordsounds.parts import ports_of
from cordsounds.patch import Patch
from cordsounds.plain import PlainMachine, run
from cordsounds.smaller import parted, shows_parted, smaller, steady, unheard
from patches import LOUD, TONE, VOICE, at, lists_of, random_lists, random_part, random_patches, random_rows
from things import SoundTest, any_things, no_rows

MIX = ("mix", (256, 256), "clip")


def random_wasteful(chance, many):
    """Lists of a patch with cords left out, factors of 0, and parts that stand there twice."""
    parts, cords, outs = random_lists(chance, many)
    names = [name for name, _ in parts]
    made = dict(parts)
    for at, name in enumerate(names):
        kind = made[name][0]
        if kind in ("taps", "mix") and chance.random() < 0.4:
            made[name] = (kind, tuple(chance.choice([0, 0, 0, 256]) for _ in made[name][1]), made[name][2])
        elder = chance.choice(names)
        if elder != name and made[elder][0] == kind and len(ports_of(made[elder])) == len(ports_of(made[name])):
            made[name] = made[elder]
    cords = [cord for cord in cords if chance.random() < 0.85]
    # Of two equal parts some have the same starts at all ports, too.
    for one, other in zip(names, names[1:]):
        if made[one] == made[other] and chance.random() < 0.7:
            cords = [cord for cord in cords if cord[1] != other] + [
                (start, other, port) for start, goal, port in cords if goal == one and start not in (one, other)]
    try:
        patch = Patch([(name, made[name]) for name in names], cords, outs)
    except LookupError:
        return parts, cords[:0], outs
    return lists_of(patch)


class Reckoned:
    """The three ways to make a patch smaller, as point 103 tells them, over lists."""

    def __init__(self, parts, cords, outs):
        self.parts, self.cords, self.outs = list(parts), list(cords), list(outs)

    def unheard(self):
        heard = {part for _, part in self.outs}
        while True:
            more = heard | {start for start, goal, _ in self.cords if goal in heard}
            if more == heard:
                return [name for name, _ in self.parts if name not in heard]
            heard = more

    def start(self, name, port):
        return {(goal, port): start for start, goal, port in self.cords}.get((name, port))

    def steady(self):
        found = set()
        while True:
            more = {name for name, part in self.parts if self.is_steady(name, part, found)}
            if more == found:
                return [name for name, _ in self.parts if name in found]
            found = more

    def is_steady(self, name, part, found):
        idle = {port: self.start(name, port) is None or self.start(name, port) in found for port in ports_of(part)}
        kind = part[0]
        if kind in ("delay", "follow"):
            return idle["in"]
        if kind == "shape":
            return idle["gate"]
        if kind == "times":
            return idle["a"] or idle["b"]
        if kind == "taps":
            return idle["in"] or set(part[1]) == {0}
        if kind == "mix":
            return not [port for port, factor in zip("abcd", part[1]) if factor != 0 and not idle[port]]
        return False

    def let_unheard_out(self):
        gone = self.unheard()
        self.parts = [row for row in self.parts if row[0] not in gone]
        self.cords = [cord for cord in self.cords if cord[0] not in gone and cord[1] not in gone]

    def let_alike_out(self):
        for later, (name, part) in enumerate(self.parts):
            for other, elder in self.parts[:later]:
                starts = [self.start(name, port) == self.start(other, port) for port in ports_of(part)]
                if elder == part and all(starts):
                    del self.parts[later]
                    self.cords = [(other if start == name else start, goal, port)
                                  for start, goal, port in self.cords if goal != name]
                    self.outs = [(out, other if heard == name else heard) for out, heard in self.outs]
                    self.let_alike_out()
                    return

    def let_steady_cords_out(self):
        still = self.steady()
        self.cords = [cord for cord in self.cords if cord[0] not in still]

    def lists(self):
        return self.parts, self.cords, self.outs

    def smaller(self):
        before = None
        while before != self.lists():
            before = tuple(list(row) for row in self.lists())
            self.let_unheard_out()
            self.let_alike_out()
            self.let_steady_cords_out()
        return before


class UnheardTest(SoundTest):
    def test_as_reckoned(self):
        some = 0
        for chance, _ in random_patches(101, 300):
            lists = random_wasteful(chance, chance.randint(1, 12))
            patch, reckoned = Patch(*lists), Reckoned(*lists)
            self.assertEqual(unheard(patch=patch), reckoned.unheard())
            self.assertEqual(steady(patch=patch), reckoned.steady())
            some += bool(unheard(patch)) and bool(steady(patch))
        self.assertGreater(some, 60)

    def test_unheard(self):
        self.assertEqual(unheard(Patch(*VOICE)), [])
        parts = [(name, ("delay", 1)) for name in "zyxwv"]
        cords = [("y", "z", "in"), ("x", "y", "in"), ("z", "w", "in"), ("w", "v", "in"), ("v", "x", "in")]
        self.assertEqual(unheard(Patch(parts, cords, [("o", "z")])), [])
        self.assertEqual(unheard(Patch(parts, cords[:2], [("o", "y"), ("p", "v")])), ["z", "w"])
        self.assertEqual(unheard(Patch(parts, cords[3:], [("o", "z")])), ["y", "x", "w", "v"])
        self.assertEqual(unheard(Patch([("a", ("noise", 1))], [], [("o", "a")])), [])

    def test_each_way_to_be_steady(self):
        rows = [(("delay", 3), [0]), (("follow", 1), [0]), (("shape", 1, 1, 1, 1), [0]), (("times", "clip"), [0, 1]),
                (("taps", (5, 5), "clip"), [0])]
        for part, ports in rows:
            names = ports_of(part)
            for open_ones in product([True, False], repeat=len(names)):
                cords = [("n", "it", port) for port, is_open in zip(names, open_ones) if is_open]
                patch = Patch([("it", part), ("n", ("noise", 1))], cords, [("o", "it")])
                wanted = ["it"] if not all(open_ones) else []
                self.assertEqual(steady(patch), wanted)
        for part in (("from", "x"), ("wave", "saw", 0), ("slow", "square", 0), ("noise", 2048)):
            self.assertEqual(steady(Patch([("it", part)], [], [("o", "it")])), [])

    def test_factors_of_0(self):
        cords = [("n", "it", port) for port in "abc"]
        for factors, ports, wanted in (((0, 0, 0), "abc", True), ((0, 1, 0), "ac", True), ((0, 1, 0), "b", False),
                                       ((1, 1, 1), "", True), ((1, 1, 1), "c", False), ((0, 0, 1), "ab", True)):
            kept = [cord for cord in cords if cord[2] in ports]
            patch = Patch([("it", ("mix", factors, "fold")), ("n", ("noise", 1))], kept, [("o", "it")])
            self.assertEqual(steady(patch), ["it"] if wanted else [])
        for factors, wanted in (((0, 0), True), ((0, 1), False), ((1, 0), False), ((0,), True)):
            patch = Patch([("it", ("taps", factors, "fold")), ("n", ("noise", 1))], [("n", "it", "in")], [("o", "it")])
            self.assertEqual(steady(patch), ["it"] if wanted else [])

    def test_steady_behind_steady(self):
        parts = [("c", ("follow", 1)), ("b", ("times", "clip")), ("a", ("taps", (0,), "clip")), ("n", ("noise", 5))]
        cords = [("n", "a", "in"), ("a", "b", "a"), ("n", "b", "b"), ("b", "c", "in")]
        self.assertEqual(steady(Patch(parts, cords, [("o", "c")])), ["c", "b", "a"])

    def test_none_but_those_that_come_by_this(self):
        # Both tell 0 for ever, but each is steady only where the other is.
        parts = [("d", ("delay", 2)), ("m", ("mix", (256, 256), "clip"))]
        cords = [("m", "d", "in"), ("d", "m", "a")]
        self.assertEqual(steady(Patch(parts, cords, [("o", "m")])), [])
        self.assertEqual(lists_of(smaller(Patch(parts, cords, [("o", "m")]))), (parts, cords, [("o", "m")]))

    def test_they_tell_0(self):
        for chance, _ in random_patches(102, 100):
            lists = random_wasteful(chance, chance.randint(1, 12))
            machine, still, rows = PlainMachine(Patch(*lists)), steady(Patch(*lists)), random_rows(chance, 30)
            for sample in range(30):
                machine.sample(at(rows, sample))
                self.assertEqual([machine.worth(name) for name in still], [0] * len(still))

    def test_refused_and_new(self):
        for thing in any_things() + [VOICE]:
            if not isinstance(thing, Patch):
                for deed in (unheard, steady, smaller):
                    self.refused(NoPatch, thing, deed, thing)
        patch = Patch([("a", ("delay", 1)), ("b", ("delay", 2))], [], [("o", "a")])
        for deed, wanted in ((unheard, ["b"]), (steady, ["a", "b"])):
            deed(patch).clear()
            self.assertEqual(deed(patch), wanted)


class SmallerTest(SoundTest):
    def test_as_reckoned_and_sounds_alike(self):
        less = 0
        for chance, _ in random_patches(103, 300):
            lists = random_wasteful(chance, chance.randint(1, 12))
            patch = Patch(*lists)
            told = smaller(patch=patch)
            self.assertEqual(lists_of(told), Reckoned(*lists).smaller())
            self.assertEqual(lists_of(patch), tuple(list(row) for row in lists))
            self.assertEqual(lists_of(smaller(told)), lists_of(told))
            less += len(told) < len(patch)
            self.sounds_alike(chance, patch, told)
        self.assertGreater(less, 150)

    def sounds_alike(self, chance, patch, told):
        rows = random_rows(chance, 40)
        wanted = run(patch, rows, 40)
        self.assertEqual(run(told, rows, 40), wanted)
        self.assertEqual(list(run(told, rows, 1)), list(wanted))
        self.assertEqual(BlockMachine(told, chance.randint(1, 64)).run(rows, 40), wanted)
        live = Live(told)
        for sample in range(40):
            self.assertEqual(live.sample(at(rows, sample)), {name: row[sample] for name, row in wanted.items()})

    def test_alike_ones(self):
        parts = [("a", ("noise", 1)), ("b", ("noise", 2)), ("c", ("noise", 1)), ("d", ("noise", 2)), ("m", ("mix", (1,) * 4, "clip"))]
        cords = [("d", "m", "a"), ("c", "m", "b"), ("b", "m", "c"), ("a", "m", "d")]
        told = smaller(Patch(parts, cords, [("o", "m"), ("p", "c"), ("q", "d")]))
        self.assertEqual(lists_of(told), ([parts[0], parts[1], parts[4]],
                                          [("b", "m", "a"), ("a", "m", "b"), ("b", "m", "c"), ("a", "m", "d")],
                                          [("o", "m"), ("p", "a"), ("q", "b")]))

    def test_alike_behind_another_one_that_was_let_out(self):
        parts = [("fb", ("follow", 5)), ("fa", ("follow", 5)), ("na", ("noise", 1)), ("nb", ("noise", 1)), ("m", MIX)]
        cords = [("na", "fa", "in"), ("nb", "fb", "in"), ("fa", "m", "a"), ("fb", "m", "b")]
        told = smaller(Patch(parts, cords, [("o", "m")]))
        self.assertEqual(lists_of(told), ([("fb", ("follow", 5)), ("na", ("noise", 1)), ("m", MIX)],
                                          [("na", "fb", "in"), ("fb", "m", "a"), ("fb", "m", "b")], [("o", "m")]))

    def test_three_alike(self):
        parts = [("a", ("from", "x")), ("b", ("from", "x")), ("c", ("from", "x")), ("d", ("from", "y"))]
        told = smaller(Patch(parts, [], [("o", "c"), ("p", "b"), ("q", "d"), ("r", "a")]))
        self.assertEqual(lists_of(told), ([parts[0], parts[3]], [], [("o", "a"), ("p", "a"), ("q", "d"), ("r", "a")]))

    def test_unlike_starts(self):
        parts = [("a", ("delay", 1)), ("b", ("delay", 1)), ("n", ("noise", 1))]
        for cords in ([("n", "a", "in")], [("n", "a", "in"), ("a", "b", "in")], [("a", "a", "in"), ("b", "b", "in")]):
            lists = (parts[:2] if len(cords) == 2 and "n" not in cords[0] else parts, cords, [("o", "a"), ("p", "b")])
            self.assertEqual(lists_of(smaller(Patch(*lists))), lists)

    def test_cords_that_begin_at_steady_parts(self):
        parts = [("m", MIX), ("n", ("noise", 1)), ("s", ("follow", 1))]
        told = smaller(Patch(parts, [("s", "m", "a"), ("n", "m", "b")], [("o", "m")]))
        self.assertEqual(lists_of(told), (parts[:2], [("n", "m", "b")], [("o", "m")]))
        told = smaller(Patch(parts, [("s", "m", "a"), ("n", "m", "b")], [("o", "m"), ("p", "s")]))
        self.assertEqual(lists_of(told), (parts, [("n", "m", "b")], [("o", "m"), ("p", "s")]))

    def test_alike_only_when_steady_cords_are_gone(self):
        parts = [("s", ("delay", 9)), ("a", ("wave", "saw", 1)), ("b", ("wave", "saw", 1)), ("m", MIX)]
        told = smaller(Patch(parts, [("s", "b", "pitch"), ("a", "m", "a"), ("b", "m", "b")], [("o", "m")]))
        self.assertEqual(lists_of(told), ([parts[1], parts[3]], [("a", "m", "a"), ("a", "m", "b")], [("o", "m")]))

    def test_a_steady_out(self):
        parts = [("f", ("follow", 1)), ("d", ("delay", 2)), ("e", ("delay", 2))]
        told = smaller(Patch(parts, [("f", "d", "in"), ("f", "e", "in")], [("o", "e"), ("p", "d")]))
        self.assertEqual(lists_of(told), ([("d", ("delay", 2))], [], [("o", "d"), ("p", "d")]))


def brute(one, other, length):
    """What point 104 tells, by product."""
    names = sorted(set(one.ins()) | set(other.ins()))
    for worths in product(product((-2048, 0, 2047), repeat=length), repeat=len(names)):
        ins = {name: list(row) for name, row in zip(names, worths)}
        told, others = run(one, ins, length), run(other, ins, length)
        for sample in range(length):
            if any(told[name][sample] != others[name][sample] for name in told):
                return ins, sample
    return None


def one_changed(chance, lists):
    """The lists with another part, a cord less, or none of these; its outs in another order."""
    parts, cords, outs = [list(row) for row in lists]
    at = chance.randrange(len(parts))
    name, part = parts[at]
    if chance.random() < 0.5:
        other = random_part(chance, part[0])
        if ports_of(other) == ports_of(part):
            parts[at] = (name, other)
    elif cords and chance.random() < 0.7:
        cords.pop(chance.randrange(len(cords)))
    chance.shuffle(outs)
    return parts, cords, outs


class PartedTest(SoundTest):
    EAR = ([("e", ("from", "x")), ("t", ("taps", (256, 0), "clip"))], [("e", "t", "in")], [("o", "t")])

    def ear(self, *factors):
        return Patch([("e", ("from", "x")), ("t", ("taps", factors, "clip"))], *self.EAR[1:])

    def test_as_brute_force_tells(self):
        counts = {True: 0, False: 0}
        for chance, lists in random_patches(104, 240):
            one, other = Patch(*lists), Patch(*one_changed(chance, lists))
            many = len(set(one.ins() + other.ins()))
            length = chance.randint(1, min(4, 6 // many if many else 4))
            told = parted(one=one, other=other, length=length)
            self.assertEqual(told, brute(one, other, length))
            if told is not None:
                self.assertEqual(list(told[0]), sorted(set(one.ins() + other.ins())))
                self.tells_truth(shows_parted(one, other, told), True)
                self.assertIs(told.__class__, tuple)
            counts[told is None] += 1
        self.assertGreater(min(counts.values()), 20)

    def test_a_smaller_one_is_never_parted(self):
        for chance, lists in random_patches(105, 60):
            patch = Patch(*random_wasteful(chance, chance.randint(1, 10)))
            many = len(patch.ins())
            self.assertIsNone(parted(patch, smaller(patch), min(4, 6 // many if many else 4)))

    def test_the_first_ins_and_sample(self):
        self.assertEqual(parted(self.ear(256, 0), self.ear(256, 1), 1), None)
        self.assertEqual(parted(self.ear(256, 0), self.ear(256, 1), 2), ({"x": [-2048, 0]}, 1))
        self.assertEqual(parted(self.ear(1, 0), self.ear(1, 1), 4), ({"x": [-2048] * 4}, 1))
        self.assertEqual(parted(self.ear(1, 0), self.ear(2, 0), 3), ({"x": [-2048] * 3}, 0))
        self.assertEqual(parted(self.ear(0, 0, 256), self.ear(0, 0, 255), 3), ({"x": [-2048] * 3}, 2))

    def test_name_by_name(self):
        parts = [("b", ("from", "b")), ("a", ("from", "a")), ("t", ("times", "clip")), ("f", ("follow", 1))]
        one = Patch(parts, [("b", "t", "a"), ("a", "t", "b")], [("o", "t")])
        other = Patch(parts, [("b", "t", "a"), ("f", "t", "b"), ("a", "f", "in")], [("o", "t")])
        told = parted(one, other, 1)
        self.assertEqual((told, list(told[0])), (({"a": [-2048], "b": [-2048]}, 0), ["a", "b"]))
        # Only where a is greatest is b's worth heard at all.
        parts = [("b", ("from", "b")), ("a", ("from", "a")), ("g", ("shape", 2047, 1, 2047, 1)), ("t", ("times", "clip"))]
        one = Patch(parts, [("a", "g", "gate"), ("g", "t", "a"), ("b", "t", "b")], [("o", "t")])
        other = Patch(parts, [("a", "g", "gate"), ("g", "t", "a")], [("o", "t")])
        self.assertEqual(parted(one, other, 2), ({"a": [-2048, 2047], "b": [-2048, -2048]}, 1))

    def test_without_ins(self):
        one, other = [Patch([("a", ("noise", seed))], [], [("o", "a")]) for seed in (1, 2)]
        self.assertEqual(parted(one, other, 4), ({}, 0))
        self.assertIsNone(parted(one, one, 4))
        one, other = [Patch([("a", ("wave", "saw", step))], [], [("o", "a")]) for step in (0, 64)]
        self.assertEqual(parted(one, other, 4), ({}, 1))

    def test_ins_of_one_alone(self):
        one = Patch([("a", ("from", "x"))], [], [("o", "a")])
        other = Patch([("a", ("from", "y"))], [], [("o", "a")])
        self.assertEqual(parted(one, other, 1), ({"x": [-2048], "y": [0]}, 0))

    def test_outs_in_whatever_order(self):
        one = Patch(LOUD[0], LOUD[1], LOUD[2])
        other = Patch(LOUD[0], LOUD[1], LOUD[2][::-1])
        self.assertIsNone(parted(one, other, 4))
        swapped = Patch(LOUD[0], LOUD[1], [("one", "far"), ("two", "near")])
        self.assertEqual(parted(one, swapped, 1), ({"left": [-2048]}, 0))

    def test_six_and_seven(self):
        def ears(many):
            names = "abcdefg"[:many]
            return Patch([(name, ("from", name)) for name in names], [], [("o", "a")])
        for many, length in ((6, 1), (3, 2), (2, 3), (1, 4), (1, 1)):
            self.assertIsNone(parted(ears(many), ears(many), length))
        for many, length in ((7, 1), (4, 2), (2, 4), (3, 3)):
            with self.assertRaises(TooMany) as caught:
                parted(ears(many), ears(1), length)
            self.assertEqual((caught.exception.many, caught.exception.__class__), (many * length, TooMany))

    def test_refused(self):
        patch, other = Patch(*LOUD), Patch(LOUD[0], LOUD[1], [("one", "near")])
        for thing in any_things() + [LOUD]:
            if not isinstance(thing, Patch):
                for deed in (parted, shows_parted):
                    self.refused(NoPatch, thing, deed, thing, thing, thing)
                    self.refused(NoPatch, thing, deed, thing, patch, 1)
                    self.refused(NoPatch, thing, deed, patch, thing, thing)
            self.refused(NoOut, other, parted, patch, other, thing)
            self.refused(NoOut, patch, parted, other, patch, thing)
            self.refused(NoOut, other, shows_parted, patch, other, thing)
            self.refused(NoNumber, thing, parted, patch, patch, thing)
        for length in (0, 5, -1):
            self.refused(NoNumber, length, parted, patch, patch, length)
        seven = Patch([(name, ("from", name)) for name in "abcdefg"], [], [("o", "a")])
        self.refused(NoNumber, 5, parted, seven, seven, 5)
        renamed = Patch(LOUD[0], LOUD[1], [("one", "near"), ("too", "far")])
        self.refused(NoOut, renamed, parted, patch, renamed, 1)


class ShowsTest(SoundTest):
    def patches(self):
        return [Patch([("e", ("from", "x")), ("t", ("taps", (256, factor), "clip"))], [("e", "t", "in")],
                      [("o", "t"), ("p", "e")]) for factor in (0, 128)]

    def test_at_this_sample(self):
        one, other = self.patches()
        ins = {"x": (5, 0, 0, 7), "other": [1, 2]}
        for sample, wanted in ((0, False), (1, True), (2, False), (3, False), (4, True), (5, False), (599, False)):
            self.tells_truth(shows_parted(one, other, (ins, sample)), wanted)
            self.tells_truth(shows_parted(other=one, one=other, thing=(ins, sample)), wanted)
            self.tells_truth(shows_parted(one, one, (ins, sample)), False)
        self.tells_truth(shows_parted(one, other, ({"x": [0] * 598 + [9]}, 599)), True)
        self.tells_truth(shows_parted(one, other, ({"x": [9] * 650}, 599)), True)
        self.tells_truth(shows_parted(one, other, ({}, 3)), False)

    def test_as_two_machines_tell(self):
        some = 0
        for chance, lists in random_patches(106, 60):
            one, other, rows = Patch(*lists), Patch(*one_changed(chance, lists)), random_rows(chance, 30)
            told, others = run(one, rows, 30), run(other, rows, 30)
            for sample in range(30):
                wanted = any(told[name][sample] != others[name][sample] for name in told)
                self.tells_truth(shows_parted(one, other, (rows, sample)), wanted)
                some += wanted
        self.assertGreater(some, 80)

    def test_no_such_tuple(self):
        one, other = self.patches()
        ins = {"x": [9, 9]}
        self.tells_truth(shows_parted(one, other, (ins, 1)), True)
        for thing in any_things() + [[ins, 1], (ins,), (ins, 1, 1), (1, ins), (ins, True), (ins, -1), (ins, 600), (ins, None)]:
            self.tells_truth(shows_parted(one, other, thing), False)
        for thing in no_rows():
            self.tells_truth(shows_parted(one, other, (thing, 1)), False)
            self.tells_truth(shows_parted(one, other, (ins, thing)), False)


class ToneTest(SoundTest):
    def test_nothing_to_let_out(self):
        for lists in (VOICE, TONE, LOUD):
            self.assertEqual(lists_of(smaller(Patch(*lists))), lists)


if __name__ == "__main__":
    unittest.main()
