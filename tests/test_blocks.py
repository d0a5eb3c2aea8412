"""Points 51, 52, 53: the block machine tells, and stands, as the plain one does, by whatever blocks and orders."""

import itertools
import random
import unittest

from cordsounds.blocks import BlockMachine
from cordsounds.errors import NoIns, NoNumber, NoOrder, NoPatch
from cordsounds.patch import Patch
from cordsounds.plain import PlainMachine
from model import runs
from patches import VOICE, at, lists_of, loud, random_order, random_patches, random_rows, voice
from things import SoundTest, any_things, no_rows

SIZES = (1, 2, 3, 7, 16, 63, 64)


def all_of(machine):
    """All that a BlockMachine tells."""
    return lists_of(machine.patch()), machine.time(), machine.foldings(), machine.stands(), machine.blocks()


def plain(patch, rows, many):
    """A plain machine that did so many samples, and what it told."""
    machine, told = PlainMachine(patch), {name: [] for name, _ in patch.outs()}
    for sample in range(many):
        for name, worth in machine.sample(at(rows, sample)).items():
            told[name].append(worth)
    return machine, told


def cuts(chance, many):
    """How long runs are that come to so many samples, some of them of none."""
    found = []
    while sum(found) < many:
        found.append(min(many - sum(found), chance.choice([0, 1, 2, 5, 17, 64, 65, 100])))
    return found


def run_cut(machine, rows, lengths):
    """What a machine tells by runs of these lengths, joined."""
    told, begin = {name: [] for name, _ in machine.patch().outs()}, 0
    for length in lengths:
        part = machine.run({name: row[begin:] for name, row in rows.items()}, length)
        for name, row in part.items():
            told[name] += row
        begin += length
    return told


def delays(*lengths):
    """A Patch of delays of these lengths, each but the first led to by the one ahead."""
    names = ["p" + "abcdef"[place] for place in range(len(lengths))]
    parts = [("ear", ("from", "x"))] + [(name, ("delay", many)) for name, many in zip(names, lengths)]
    return Patch(parts, [(start, goal, "in") for start, goal in zip(["ear"] + names, names)], [("o", parts[-1][0])])


class AsThePlainOneTest(SoundTest):
    def stands_as(self, machine, plain_one):
        self.assertEqual(machine.stands(), plain_one.stands())
        self.assertIs(machine.stands().__class__, tuple)
        self.assertEqual(machine.foldings(), plain_one.foldings())
        self.assertEqual(machine.time(), plain_one.time())
        self.assertEqual(machine.patch(), plain_one.patch())

    def test_tells_what_the_table_tells(self):
        for chance, lists in random_patches(21, 120):
            many = chance.choice([1, 30, 63, 64, 65, 120])
            rows = random_rows(chance, many)
            told, model = runs(*lists, rows, many)
            machine = BlockMachine(Patch(*lists), chance.choice(SIZES))
            self.assertEqual(machine.run(rows, many), told)
            self.assertEqual(machine.foldings(), model.foldings())
            self.stands_as(machine, plain(Patch(*lists), rows, many)[0])

    def test_all_sizes(self):
        for chance, lists in random_patches(22, 12):
            rows = random_rows(chance, 70)
            plain_one, told = plain(Patch(*lists), rows, 70)
            for size in range(1, 65):
                machine = BlockMachine(Patch(*lists), size)
                self.assertEqual(machine.run(rows, 70), told)
                self.stands_as(machine, plain_one)

    def test_600_samples(self):
        for chance, lists in random_patches(23, 12):
            rows = random_rows(chance, 600)
            plain_one, told = plain(Patch(*lists), rows, 600)
            machine = BlockMachine(Patch(*lists), chance.choice(SIZES))
            self.assertEqual(machine.run(rows, 600), told)
            self.assertEqual(list(told), [name for name, _ in lists[2]])
            self.stands_as(machine, plain_one)

    def test_cut_anywhere_in_any_order(self):
        for chance, lists in random_patches(24, 120):
            rows, patch = random_rows(chance, 150), Patch(*lists)
            plain_one, told = plain(patch, rows, 150)
            machine = BlockMachine(patch, chance.randint(1, 64), order=random_order(chance, patch))
            self.assertEqual(run_cut(machine, rows, cuts(chance, 150)), told)
            self.stands_as(machine, plain_one)

    def test_all_orders(self):
        rows = {"gate": [1] * 20 + [0] * 20}
        plain_one, told = plain(voice(), rows, 50)
        orders = [order for order in itertools.permutations(voice().order()) if voice().is_order(order)]
        self.assertGreater(len(orders), 6)
        for order in orders:
            for handed in (order, list(order)):
                machine = BlockMachine(voice(), 2, order=handed)
                self.assertEqual(machine.run(rows, 50), told)
                self.stands_as(machine, plain_one)
                self.assertEqual(machine.blocks(), [2] * 25)

    def test_each_run_has_its_ins_from_its_first_sample_on(self):
        machine = BlockMachine(delays(1), 4)
        self.assertEqual(machine.run({"x": [1, 2, 3]}, 5), {"o": [0, 1, 2, 3, 0]})
        self.assertEqual(machine.run({"x": (4, 5, 6)}, 2), {"o": [0, 4]})
        self.assertEqual(machine.run({}, 1), {"o": [5]})
        self.assertEqual(machine.run(many=2, ins={"y": [9], "x": [7] * 650}), {"o": [0, 7]})
        self.assertEqual(machine.time(), 10)

    def test_of_none(self):
        machine = BlockMachine(voice(), 5)
        told = machine.run({"gate": [1]}, 0)
        self.assertEqual(told, {"main": [], "dry": []})
        self.assertIsNot(told["main"], told["dry"])
        self.stands_as(machine, PlainMachine(voice()))

    def test_foldings_count_from_the_first_run_on(self):
        machine = BlockMachine(loud(), 64)
        machine.run({"left": [0] * 70}, 70)
        machine.run({"left": [0, 0, 2000, 0, 1500, 1500]}, 6)
        self.assertEqual(machine.foldings(), [("near", 72), ("far", 75)])

    def test_foldings_of_one_block_by_samples(self):
        parts, cords, outs = lists_of(loud())
        for rows in (parts, parts[::-1]):
            machine = BlockMachine(Patch(rows, cords, outs), 8)
            machine.run({"left": [1500, 0, 1500, 1500]}, 4)
            self.assertEqual(machine.foldings(), [("near", 0), ("far", 3)])


class BlocksTest(SoundTest):
    def blocks(self, patch, size, many, wanted):
        machine = BlockMachine(patch, size)
        machine.run({}, many)
        self.assertEqual(machine.blocks(), wanted)

    def test_how_long_they_are(self):
        self.assertEqual(BlockMachine(voice(), 5).blocks(), [])
        for size, many, wanted in ((1, 3, [1] * 3), (4, 10, [4, 4, 2]), (5, 10, [5, 5]), (64, 10, [10]), (10, 10, [10]),
                                   (9, 10, [9, 1]), (64, 600, [64] * 9 + [24]), (7, 0, []), (64, 64, [64]),
                                   (1, 600, [1] * 600)):
            self.blocks(loud(), size, many, wanted)

    def test_of_the_least_delay(self):
        self.blocks(delays(3), 5, 10, [3, 3, 3, 1])
        self.blocks(delays(5), 3, 10, [3, 3, 3, 1])
        self.blocks(delays(64, 4, 9), 64, 10, [4, 4, 2])
        self.blocks(delays(1, 64), 64, 3, [1, 1, 1])
        self.blocks(delays(64), 64, 130, [64, 64, 2])
        self.blocks(delays(64), 63, 130, [63, 63, 4])

    def test_of_a_delay_that_no_out_hears(self):
        patch = Patch([("a", ("noise", 1)), ("b", ("delay", 2))], [], [("o", "a")])
        self.blocks(patch, 64, 5, [2, 2, 1])

    def test_of_the_last_run(self):
        machine = BlockMachine(loud(), 4)
        machine.run({}, 6)
        self.assertEqual(machine.blocks(), [4, 2])
        machine.run({}, 3)
        self.assertEqual(machine.blocks(), [3])
        machine.run({}, 0)
        self.assertEqual(machine.blocks(), [])

    def test_is_told_new(self):
        machine = BlockMachine(loud(), 4)
        machine.run({}, 6)
        machine.blocks().clear()
        machine.foldings().append("other")
        self.assertEqual((machine.blocks(), machine.foldings()), ([4, 2], []))


class ToldTest(SoundTest):
    def test_ahead_of_the_first_run(self):
        machine = BlockMachine(patch=voice(), size=64, order=None)
        self.assertEqual(all_of(machine), (VOICE, 0, [], PlainMachine(voice()).stands(), []))

    def test_what_is_handed_in_is_not_changed_and_kept_as_a_copy(self):
        order, rows = voice().order(), {"gate": [1] * 5, "no": (3,)}
        machine = BlockMachine(voice(), 3, order=order)
        told = machine.run(rows, 5)
        self.assertEqual((order, rows), (voice().order(), {"gate": [1] * 5, "no": (3,)}))
        order.clear()
        told["main"].clear()
        rows["gate"].clear()
        self.assertEqual(len(machine.run(rows, 5)["main"]), 5)

    def test_outs_of_one_part_have_lists_of_their_own(self):
        patch = Patch([("a", ("from", "x"))], [], [("o", "a"), ("p", "a")])
        told = BlockMachine(patch, 4).run({"x": [1]}, 6)
        self.assertEqual(told, {"o": [1, 0, 0, 0, 0, 0], "p": [1, 0, 0, 0, 0, 0]})
        self.assertIsNot(told["o"], told["p"])

    def test_twin(self):
        for chance, lists in random_patches(25, 36):
            patch = Patch(*lists)
            machine = BlockMachine(patch, chance.choice(SIZES), order=random_order(chance, patch))
            machine.run(random_rows(chance, 40), 40)
            twin, before, rows = machine.twin(), all_of(machine), random_rows(chance, 50)
            self.assertEqual(all_of(twin), before)
            told = twin.run(rows, 50)
            self.assertEqual(all_of(machine), before)
            self.assertEqual(machine.run(rows, 50), told)
            self.assertEqual(all_of(machine), all_of(twin))

    def test_a_twin_goes_by_the_same_size(self):
        twin = BlockMachine(loud(), 4).twin()
        self.assertEqual(twin.blocks(), [])
        twin.run({}, 9)
        self.assertEqual(twin.blocks(), [4, 4, 1])


class RefusedTest(SoundTest):
    def test_no_patch(self):
        for thing in any_things() + [VOICE]:
            if not isinstance(thing, Patch):
                self.refused(NoPatch, thing, BlockMachine, thing, 0, order=[])

    def test_no_size(self):
        for size in (1, 64):
            BlockMachine(voice(), size)
        for thing in any_things() + [0, 65, -1, "1", [1]]:
            self.refused(NoNumber, thing, BlockMachine, voice(), thing, order=[])

    def test_no_order(self):
        order = voice().order()
        wrong = [order[::-1], order[:-1], order + order[:1], order[:-1] + ["no"], dict.fromkeys(order), "".join(order)]
        for thing in [thing for thing in any_things() if thing is not None] + wrong:
            self.refused(NoOrder, thing, BlockMachine, voice(), 1, order=thing)
        with self.assertRaises(TypeError):
            BlockMachine(voice(), 1, order)

    def test_run(self):
        machine = BlockMachine(loud(), 4)
        machine.run({"left": [1500, 1500, 3]}, 6)
        before = all_of(machine)
        for thing in no_rows():
            self.refused(NoIns, thing, machine.run, thing, -1)
            self.assertEqual(all_of(machine), before)
        for thing in any_things() + [-1, 601, "1", [1]]:
            self.refused(NoNumber, thing, machine.run, {}, thing)
            self.assertEqual(all_of(machine), before)
        self.assertEqual(machine.run({"left": [1]}, 1), {"one": [2], "two": [1]})

    def test_more_than_600_in_all(self):
        chance = random.Random(6)
        machine, rows = BlockMachine(voice(), 64), random_rows(chance, 600)
        for _ in range(3):
            self.assertEqual(len(machine.run(rows, 600)["main"]), 600)
        self.assertEqual(machine.time(), 1800)


if __name__ == "__main__":
    unittest.main()
