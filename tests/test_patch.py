"""Points 31, 33: Patches, what is refused of them in which order, what they tell, and other ones made of them."""

import itertools
import unittest

from cordsounds.errors import NoCord, NoOut, NoPart, NoPort, NotThere, Ring, SoundError, Taken, Twice
from cordsounds.parts import ports_of
from cordsounds.patch import Patch
from patches import VOICE, is_ready, lists_of, loud, random_order, random_patches, voice
from things import PARTS, SoundTest, any_things

NOISE = ("noise", 5)
TIMES = ("times", "clip")
# In these lists, begun with what is due first, each thing is wrong in just one way.
A = [("a", NOISE), ("b", TIMES), ("c", ("delay", 2))]
OUT = [("main", "b")]


def ready_order(patch):
    """The order as point 33 tells it."""
    left, found = [name for name, _ in patch.parts()], []
    while left:
        found.append([name for name in left if is_ready(patch, name, found)][0])
        left.remove(found[-1])
    return found


class MadeTest(SoundTest):
    def test_tells_what_it_is_made_of(self):
        patch = voice()
        self.assertEqual((patch.parts(), patch.cords(), patch.outs()), VOICE)
        self.assertEqual(patch.part("loud"), ("times", "wrap"))
        self.assertEqual(patch.ins(), ["gate"])
        self.assertEqual(len(patch), 6)
        for _, (parts, cords, outs) in random_patches(1, 60):
            self.assertEqual(lists_of(Patch(parts, cords, outs)), (parts, cords, outs))

    def test_by_names_and_of_tuples(self):
        patch = Patch(outs=tuple(VOICE[2]), cords=tuple(VOICE[1]), parts=tuple(VOICE[0]))
        self.assertEqual(lists_of(patch), VOICE)
        self.assertEqual(patch, voice())

    def test_parts_of_all_kinds(self):
        for part in PARTS.values():
            self.assertEqual(Patch([("abcdefgh", part)], [], [("out", "abcdefgh")]).part("abcdefgh"), part)

    def test_keeps_copies_and_tells_new_lists(self):
        parts, cords, outs = [list(rows) for rows in VOICE]
        patch = Patch(parts, cords, outs)
        for rows in (parts, cords, outs):
            rows.clear()
        self.assertEqual(lists_of(patch), VOICE)
        for tell in (patch.parts, patch.cords, patch.outs, patch.ins, patch.order):
            told = tell()
            self.assertIs(told.__class__, list)
            told.append("other")
            self.assertEqual(tell(), told[:-1])

    def test_what_is_handed_in_is_not_changed(self):
        parts, cords, outs = [list(rows) for rows in VOICE]
        patch = Patch(parts, cords, outs)
        patch.with_part("tone", ("wave", "tri", 1))
        patch.without_cord("echo", "in").with_cord(("key", "echo", "in"))
        self.assertEqual((parts, cords, outs), VOICE)

    def test_one_part_twelve_and_more(self):
        rows = [("p" + "abcdefghijklm"[at], NOISE) for at in range(13)]
        for many in (1, 11, 12):
            self.assertEqual(len(Patch(rows[:many], [], [("o", "pa")])), many)
        for wrong in ([], (), rows, tuple(rows), rows * 50):
            self.refused(NoPart, wrong, Patch, wrong, [], [("o", "pa")])

    def test_one_out_four_and_more(self):
        rows = [("o" + "abcde"[at], "a") for at in range(5)]
        for many in (1, 2, 3, 4):
            self.assertEqual(Patch(A, [], rows[:many]).outs(), rows[:many])
        for wrong in ([], (), rows, tuple(rows)):
            self.refused(NoOut, wrong, Patch, A, [], wrong)

    def test_names_of_parts_outs_and_ins_may_be_the_same(self):
        patch = Patch([("a", ("from", "a")), ("in", ("delay", 1))], [("a", "in", "in")], [("a", "in"), ("in", "a")])
        self.assertEqual(patch.ins(), ["a"])
        self.assertEqual(patch.start("in", "in"), "a")

    def test_ins_stand_once_as_they_first_stand(self):
        rows = [("a", ("from", "y")), ("b", ("from", "x")), ("c", ("from", "y")), ("d", NOISE), ("e", ("from", "w"))]
        self.assertEqual(Patch(rows, [], [("o", "a")]).ins(), ["y", "x", "w"])
        self.assertEqual(Patch(rows[::-1], [], [("o", "a")]).ins(), ["w", "y", "x"])
        self.assertEqual(loud().ins(), ["left"])
        self.assertEqual(Patch([("d", NOISE)], [], [("o", "d")]).ins(), [])


class RefusedTest(SoundTest):
    def test_any_thing_as_a_list(self):
        for thing in any_things():
            is_list = isinstance(thing, (list, tuple))
            if not is_list:
                self.refused(NoCord, thing, Patch, A, thing, None)
            if not is_list or not 1 <= len(thing) <= 4:
                self.refused(NoPart, thing, Patch, thing, None, None)
                self.refused(NoOut, thing, Patch, A, [], thing)

    def test_any_thing_in_a_list(self):
        for thing in any_things() + ["ab", "abc", ["a", NOISE], ["b", "a"], ["a", "b", "a"]]:
            for rows in ([thing], (thing,), [("x", NOISE), thing, None], (("x", NOISE), thing)):
                self.refused(NoPart, thing, Patch, rows, None, None)
            for rows in ([thing], (thing,), [("a", "b", "a"), thing, None], (("no", "no", "no"), thing)):
                self.refused(NoCord, thing, Patch, A, rows, None)
            for rows in ([thing], (thing,), [("x", "a"), thing, None], (("x", "no"), thing)):
                self.refused(NoOut, thing, Patch, A, [], rows)

    def test_any_thing_in_a_tuple(self):
        for thing in any_things():
            for row in ((thing, NOISE), ("x", thing), (thing, thing), ("x", NOISE, thing), ("x",), (NOISE, "x")):
                self.refused(NoPart, row, Patch, [row], None, None)
            for row in ((thing, "b", "a"), ("a", thing, "a"), ("a", "b", thing), ("a", "b", "a", thing), ("a", "b")):
                self.refused(NoCord, row, Patch, A, [row], None)
            for row in ((thing, "a"), ("x", thing), ("x", "a", thing), ("x",), ()):
                self.refused(NoOut, row, Patch, A, [], [row])

    def test_a_name_that_stands_ahead(self):
        self.refused(Twice, "a", Patch, [("a", NOISE), ("b", NOISE), ("a", TIMES)], None, None)
        self.refused(Twice, "b", Patch, [("a", NOISE), ("b", NOISE), ("b", TIMES), ("a", TIMES)], None, None)
        self.refused(Twice, "x", Patch, A, [], [("x", "a"), ("y", "a"), ("x", "a")])

    def test_cords(self):
        self.refused(NotThere, "no", Patch, A, [("no", "b", "a")], None)
        self.refused(NotThere, "no", Patch, A, [("a", "no", "a")], None)
        self.refused(NotThere, "noa", Patch, A, [("noa", "nob", "none")], None)
        self.refused_of(NoPort, ("b", "in"), Patch, A, [("a", "b", "in")], None)
        self.refused_of(NoPort, ("a", "a"), Patch, A, [("a", "a", "a")], None)
        self.refused_of(NoPort, ("c", "a"), Patch, A, (("a", "c", "in"), ("a", "c", "a")), None)
        self.refused_of(Taken, ("b", "a"), Patch, A, [("a", "b", "a"), ("a", "b", "b"), ("c", "b", "a")], None)
        self.refused_of(Taken, ("c", "in"), Patch, A, [("c", "c", "in"), ("c", "c", "in")], None)

    def test_outs(self):
        self.refused(NotThere, "no", Patch, A, [], [("x", "a"), ("y", "no")])
        self.refused(NotThere, "main", Patch, A, [], [("main", "main")])

    def test_a_ports_name_may_be_any_name(self):
        self.refused_of(NoPort, ("b", "abcdefgh"), Patch, A, [("a", "b", "abcdefgh")], None)
        self.refused(NoCord, ("a", "b", "abcdefghi"), Patch, A, [("a", "b", "abcdefghi")], None)


class FirstDueTest(SoundTest):
    """What is due first goes, whatever is wrong behind it."""

    PARTS = [(NoPart, {}, {}), (NoPart, ("x", 1), [("x", 1)] + A), (Twice, "a", A + [("a", NOISE)])]
    CORDS = [(NoCord, None, None), (NoCord, 5, [5]), (NotThere, "no", [("no", "b", "a")]),
             (NoPort, ("a", "a"), [("a", "a", "a")]), (Taken, ("c", "in"), [("b", "c", "in")] * 2)]
    OUTS = [(NoOut, None, None), (NoOut, (), [()]), (Twice, "x", [("x", "a")] * 2), (NotThere, "no", [("x", "no")])]
    RING = [("b", "b", "b")]

    def test_the_lists_one_behind_the_other(self):
        cords = [[], self.RING] + [rows for _, _, rows in self.CORDS]
        outs = [OUT] + [rows for _, _, rows in self.OUTS]
        for refusal, found, wrong in self.PARTS:
            for both in itertools.product(cords, outs):
                self.refused_of(refusal, found, Patch, wrong, *both)
        for refusal, found, wrong in self.CORDS:
            for rows in outs:
                self.refused_of(refusal, found, Patch, A, wrong, rows)
        for refusal, found, wrong in self.OUTS:
            for rows in cords[:2]:
                self.refused_of(refusal, found, Patch, A, rows, wrong)
        self.refused_of(Ring, ["b"], Patch, A, self.RING, OUT)

    def test_things_ahead_of_names(self):
        self.refused(NoPart, 5, Patch, [("a", NOISE), ("a", NOISE), 5], None, None)
        self.refused(NoCord, 5, Patch, A, [("no", "b", "a"), ("a", "b", "no"), 5], None)
        self.refused(NoOut, 5, Patch, A, [], [("x", "no"), ("x", "a"), 5])

    def test_the_first_thing_of_several(self):
        self.refused(NoPart, 7, Patch, [("a", NOISE), 7, 5, ("a", NOISE)], None, None)
        self.refused(NoCord, 7, Patch, A, [7, 5], None)
        self.refused(NoOut, 7, Patch, A, [], [("x", "no"), 7, 5])

    def test_cord_by_cord(self):
        no, port, taken = ("no", "b", "a"), ("a", "b", "in"), ("a", "c", "in")
        for rows in itertools.permutations([no, port, taken]):
            cords = [("c", "c", "in")] + list(rows)
            refusal, found = {no: (NotThere, "no"), port: (NoPort, ("b", "in")), taken: (Taken, ("c", "in"))}[rows[0]]
            self.refused_of(refusal, found, Patch, A, cords, None)

    def test_in_one_cord(self):
        self.refused(NotThere, "x", Patch, A, [("x", "y", "a")], None)
        self.refused(NotThere, "y", Patch, A, [("a", "y", "none")], None)

    def test_out_by_out(self):
        self.refused(NotThere, "no", Patch, A, [], [("x", "a"), ("y", "no"), ("x", "a")])
        self.refused(Twice, "x", Patch, A, [], [("x", "a"), ("x", "a"), ("y", "no")])
        self.refused(Twice, "x", Patch, A, [], [("x", "a"), ("x", "no")])

    def test_a_ring_comes_last(self):
        ring = [("b", "b", "a")]
        self.refused(NotThere, "no", Patch, A, ring, [("x", "no")])
        self.refused(NoOut, (), Patch, A, ring, ())
        self.refused_of(Taken, ("b", "a"), Patch, A, ring * 2, OUT)
        self.refused_of(Ring, ["b"], Patch, A, ring, OUT)


class AskedTest(SoundTest):
    def test_part(self):
        patch = voice()
        self.assertEqual(patch.part(name="key"), ("from", "gate"))
        for thing in any_things() + ["no", "main", ("key",)]:
            self.refused(NotThere, thing, patch.part, thing)

    def test_start(self):
        patch = voice()
        self.assertEqual(patch.start("sum", "b"), "echo")
        self.assertEqual(patch.start(port="in", goal="echo"), "sum")
        self.assertIsNone(patch.start("tone", "pitch"))
        for thing in any_things() + ["no", "main"]:
            self.refused(NotThere, thing, patch.start, thing, "a")
            self.refused(NotThere, thing, patch.start, thing, thing)
            self.refused_of(NoPort, ("sum", thing), patch.start, "sum", thing)
        self.refused_of(NoPort, ("sum", "c"), patch.start, "sum", "c")
        self.refused_of(NoPort, ("key", "gate"), patch.start, "key", "gate")

    def test_starts_of_all_ports(self):
        for _, (parts, cords, outs) in random_patches(2, 60):
            patch = Patch(parts, cords, outs)
            wanted = {(goal, port): start for start, goal, port in cords}
            for name, part in parts:
                for port in ports_of(part):
                    self.assertEqual(patch.start(name, port), wanted.get((name, port)))

    def test_order(self):
        self.assertEqual(voice().order(), ["echo", "tone", "key", "gain", "loud", "sum"])
        self.assertEqual(loud().order(), ["ear", "far", "near"])
        for _, (parts, cords, outs) in random_patches(3, 120):
            patch = Patch(parts, cords, outs)
            self.assertEqual(patch.order(), ready_order(patch))
            self.tells_truth(patch.is_order(patch.order()), True)

    def test_a_delay_waits_for_nothing_and_nothing_for_it(self):
        patch = Patch([("a", ("delay", 1)), ("b", TIMES), ("c", ("delay", 2)), ("d", NOISE)],
                      [("b", "a", "in"), ("c", "b", "a"), ("d", "b", "b"), ("c", "c", "in")], OUT)
        self.assertEqual(patch.order(), ["a", "c", "d", "b"])
        for order in itertools.permutations("abcd"):
            self.tells_truth(patch.is_order(list(order)), order.index("d") < order.index("b"))
            self.tells_truth(patch.is_order(thing=order), order.index("d") < order.index("b"))

    def test_is_order_of_all_rows_of_names(self):
        for _, (parts, cords, outs) in random_patches(4, 60):
            patch = Patch(parts, cords, outs)
            names = [name for name, _ in parts]
            for row in itertools.islice(itertools.permutations(names), 150):
                wanted = all(is_ready(patch, name, row[:at]) for at, name in enumerate(row))
                self.tells_truth(patch.is_order(row), wanted)

    def test_is_order_of_any_order(self):
        for chance, (parts, cords, outs) in random_patches(5, 60):
            patch = Patch(parts, cords, outs)
            order = random_order(chance, patch)
            self.tells_truth(patch.is_order(order), True)
            self.tells_truth(patch.is_order(order[:-1]), False)
            self.tells_truth(patch.is_order(order + order[:1]), False)
            if len(order) > 1:
                self.tells_truth(patch.is_order(order[:-1] + order[:1]), False)
            for thing in any_things():
                self.tells_truth(patch.is_order(order[:-1] + [thing]), False)

    def test_is_order_of_any_thing(self):
        patch = Patch([("a", NOISE)], [], [("o", "a")])
        self.tells_truth(patch.is_order(["a"]), True)
        self.tells_truth(patch.is_order(("a",)), True)
        for thing in any_things() + ["a", {"a": 1}, ["b"], [["a"]], ["a", "a"]]:
            self.tells_truth(patch.is_order(thing), False)


class OtherPatchesTest(SoundTest):
    def unchanged(self, patch):
        self.assertEqual(lists_of(patch), VOICE)
        self.assertEqual(patch.order(), voice().order())
        self.assertIsNone(patch.start("tone", "pitch"))

    def test_with_a_part(self):
        patch = voice()
        for name, part in (("loud", ("mix", (1, 2), "fold")), ("sum", TIMES), ("tone", ("wave", "tri", 0)),
                           ("echo", ("delay", 64)), ("key", NOISE), ("key", ("slow", "tri", 1))):
            other = patch.with_part(name, part)
            self.assertEqual(other.parts(), [(at, part if at == name else kept) for at, kept in VOICE[0]])
            self.assertEqual((other.cords(), other.outs()), VOICE[1:])
            self.assertEqual(other.part(name), part)
        self.assertEqual(patch.with_part(part=("from", "x"), name="key").ins(), ["x"])
        self.unchanged(patch)

    def test_with_a_part_refused(self):
        patch = voice()
        for thing in any_things() + ["no"]:
            self.refused(NotThere, thing, patch.with_part, thing, thing)
            self.refused(NotThere, thing, patch.with_part, thing, NOISE)
            self.refused(NoPart, thing, patch.with_part, "key", thing)
        for name, part in (("loud", ("mix", (1,), "fold")), ("loud", ("mix", (1, 2, 3), "fold")), ("tone", NOISE),
                           ("gain", ("follow", 1)), ("key", ("wave", "saw", 1)), ("echo", ("delay", 65))):
            self.refused(NoPart, part, patch.with_part, name, part)
        for part in (("taps", (1,), "clip"), ("follow", 1)):
            self.refused_of(Ring, ["echo", "sum"], patch.with_part, "echo", part)
        self.unchanged(patch)

    def test_with_a_cord(self):
        patch = voice()
        cord = ("echo", "tone", "pitch")
        other = patch.with_cord(cord)
        self.assertEqual(lists_of(other), (VOICE[0], VOICE[1] + [cord], VOICE[2]))
        self.assertEqual(other.start("tone", "pitch"), "echo")
        self.assertEqual(patch.with_cord(cord=cord), other)
        self.unchanged(patch)

    def test_with_a_cord_refused(self):
        patch = voice()
        for thing in ["abc", list(VOICE[1][0])]:
            self.refused(NoCord, thing, patch.with_cord, thing)
        for thing in any_things():
            self.refused(NoCord, thing, patch.with_cord, thing)
            for cord in ((thing, "tone", "pitch"), ("key", thing, "pitch"), ("key", "tone", thing)):
                self.refused(NoCord, cord, patch.with_cord, cord)
        self.refused(NotThere, "no", patch.with_cord, ("no", "none", "in"))
        self.refused(NotThere, "none", patch.with_cord, ("key", "none", "in"))
        self.refused_of(NoPort, ("tone", "in"), patch.with_cord, ("key", "tone", "in"))
        self.refused_of(Taken, ("gain", "gate"), patch.with_cord, ("gain", "gain", "gate"))
        self.refused_of(Ring, ["tone", "loud"], patch.with_cord, ("loud", "tone", "pitch"))
        self.unchanged(patch)

    def test_without_a_cord(self):
        patch = voice()
        for at, (_, goal, port) in enumerate(VOICE[1]):
            other = patch.without_cord(goal, port)
            self.assertEqual(lists_of(other), (VOICE[0], VOICE[1][:at] + VOICE[1][at + 1:], VOICE[2]))
            self.assertIsNone(other.start(goal, port))
            self.assertEqual(patch.without_cord(port=port, goal=goal), other)
        self.unchanged(patch)

    def test_without_a_cord_refused(self):
        patch = voice()
        for thing in any_things() + ["no"]:
            self.refused_of(NotThere, (thing, "a"), patch.without_cord, thing, "a")
            self.refused_of(NotThere, ("sum", thing), patch.without_cord, "sum", thing)
            self.refused_of(NotThere, (thing, thing), patch.without_cord, thing, thing)
        self.refused_of(NotThere, ("tone", "pitch"), patch.without_cord, "tone", "pitch")
        self.refused_of(NotThere, ("sum", "c"), patch.without_cord, "sum", "c")
        self.unchanged(patch)

    def test_there_and_back(self):
        for _, (parts, cords, outs) in random_patches(6, 60):
            patch = Patch(parts, cords, outs)
            for start, goal, port in cords:
                other = patch.without_cord(goal, port).with_cord((start, goal, port))
                self.assertEqual(other.cords()[-1], (start, goal, port))
                self.assertEqual(other, patch)


class EqualTest(SoundTest):
    def test_equal_are_patches_made_alike(self):
        self.tells_truth(voice() == voice(), True)
        self.tells_truth(voice() != voice(), False)

    def test_cords_in_whatever_order(self):
        for chance, (parts, cords, outs) in random_patches(7, 60):
            other = list(cords)
            chance.shuffle(other)
            self.tells_truth(Patch(parts, cords, outs) == Patch(parts, other, outs), True)

    def test_parts_and_outs_in_their_order(self):
        parts, cords, outs = VOICE
        for other in ((parts[1:] + parts[:1], cords, outs), (parts, cords, outs[::-1]), (parts, cords[1:], outs),
                      (parts, cords, outs[:1]), (parts, cords, [("main", "sum"), ("dry", "sum")]),
                      (parts, cords, [("main", "sum"), ("wet", "loud")]),
                      (parts, [("key", "echo", "in")] + cords[1:], outs),
                      (parts + [("more", NOISE)], cords, outs)):
            self.tells_truth(Patch(*other) == voice(), False)
            self.tells_truth(voice() != Patch(*other), True)
        self.tells_truth(voice() == voice().with_part("tone", ("wave", "saw", 65)), False)

    def test_parts_called_otherwise(self):
        one = Patch([("a", NOISE)], [], [("o", "a")])
        self.tells_truth(one == Patch([("b", NOISE)], [], [("o", "b")]), False)

    def test_of_any_thing(self):
        for thing in any_things() + [list(VOICE), VOICE, voice().parts()]:
            self.tells_truth(voice() == thing, False)
            self.tells_truth(thing == voice(), False)

    def test_refusals_are_of_their_families(self):
        self.assertTrue(issubclass(NoCord, SoundError) and issubclass(NotThere, KeyError))
        self.assertTrue(issubclass(Ring, LookupError) and issubclass(Taken, LookupError))


if __name__ == "__main__":
    unittest.main()
