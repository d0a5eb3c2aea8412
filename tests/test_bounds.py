"""Point 101: the bounds of taps and mix, what reaches them, and which never fold."""

import random
import unittest
from itertools import product

from cordsounds.bounds import bounds, never_folds, reaching
from cordsounds.errors import NoPart
from cordsounds.patch import Patch
from cordsounds.plain import PlainMachine, run
from model import fold
from patches import MANNERS
from things import PARTS, SoundTest, any_things


def random_factors(chance, most):
    return tuple(chance.choice([0, 0, 1, -1, 256, -256, chance.randint(-256, 256), chance.randint(-20, 20)])
                 for _ in range(chance.randint(1, most)))


def random_parts(seed, many):
    chance = random.Random(seed)
    for _ in range(many):
        kind = chance.choice(["taps", "mix"])
        yield chance, (kind, random_factors(chance, 8 if kind == "taps" else 4), chance.choice(MANNERS))


def rows_for(part, gets):
    """The ins of a run at whose last sample the ports get just this, by the parts of `machine_of`."""
    if part[0] == "taps":
        return {"x": gets}
    return {port: [worth] for port, worth in gets.items()}


def patch_of(part):
    """A Patch of this part, into each port of which an outer in comes."""
    ports = ["in"] if part[0] == "taps" else list("abcd")[:len(part[1])]
    ins = [(f"in{'abcd'[at]}", ("from", "x" if part[0] == "taps" else port)) for at, port in enumerate(ports)]
    cords = [(name, "it", port) for (name, _), port in zip(ins, ports)]
    return Patch([("it", part)] + ins, cords, [("o", "it")])


class BoundsTest(SoundTest):
    def test_reached_by_the_worths_told(self):
        for _, part in random_parts(1, 300):
            least, greatest, tells_least, tells_greatest = bounds(part)
            for gets, total, tells in zip(reaching(part=part), (least, greatest), (tells_least, tells_greatest)):
                worths = gets[::-1] if part[0] == "taps" else list(gets.values())
                self.assertEqual(sum(factor * worth for factor, worth in zip(part[1], worths)), total)
                self.assertEqual(fold((total + 128) // 256, part[2]), tells)
                many = len(part[1]) if part[0] == "taps" else 1
                self.assertEqual(run(patch_of(part), rows_for(part, gets), many)["o"][-1], tells)

    def test_no_others_go_beyond_them(self):
        for chance, part in random_parts(2, 200):
            least, greatest = bounds(part=part)[:2]
            for _ in range(50):
                worths = [chance.choice([-2048, 2047, 0, chance.randint(-2048, 2047)]) for _ in part[1]]
                self.assertTrue(least <= sum(factor * worth for factor, worth in zip(part[1], worths)) <= greatest)
        for _, part in random_parts(3, 60):
            sums = [sum(factor * worth for factor, worth in zip(part[1], worths))
                    for worths in product((-2048, 0, 2047), repeat=len(part[1]))]
            self.assertEqual(bounds(part)[:2], (min(sums), max(sums)))

    def test_some(self):
        self.assertEqual(bounds(("taps", (256,), "clip")), (-2048 * 256, 2047 * 256, -2048, 2047))
        self.assertEqual(bounds(("mix", (256, 256), "clip")), (-4096 * 256, 4094 * 256, -2048, 2047))
        self.assertEqual(bounds(("mix", (256, 256), "wrap")), (-4096 * 256, 4094 * 256, 0, -2))
        self.assertEqual(bounds(("taps", (256, 256), "fold")), (-4096 * 256, 4094 * 256, -1, 1))
        self.assertEqual(bounds(("taps", (-256,), "clip")), (-2047 * 256, 2048 * 256, -2047, 2047))
        self.assertEqual(bounds(("mix", (0, 0, 0, 0), "fold")), (0, 0, 0, 0))
        self.assertIs(bounds(PARTS["mix"]).__class__, tuple)

    def test_reaching(self):
        self.assertEqual(reaching(("taps", (1, -1, 0), "clip")), ([0, 2047, -2048], [0, -2048, 2047]))
        self.assertEqual(reaching(("mix", (1, -1, 0, 5), "clip")),
                         ({"a": -2048, "b": 2047, "c": 0, "d": -2048}, {"a": 2047, "b": -2048, "c": 0, "d": 2047}))
        self.assertEqual(reaching(("taps", (0,) * 8, "wrap")), ([0] * 8, [0] * 8))
        self.assertEqual(reaching(("mix", (0, 0), "wrap")), ({"a": 0, "b": 0}, {"a": 0, "b": 0}))
        for part in (PARTS["taps"], PARTS["mix"]):
            told = reaching(part)
            self.assertIs(told.__class__, tuple)
            self.assertIsNot(told[0], told[1])
            told[0].clear()
            self.assertNotEqual(reaching(part), told)
        for gets in reaching(("mix", (3, -3, 0, 3), "clip")):
            self.assertEqual(list(gets), ["a", "b", "c", "d"])
        told = reaching(("taps", (0, 0), "clip"))
        told[0].append(1)
        self.assertEqual(told[1], [0, 0])

    def test_never_folds(self):
        yes = [("taps", (256,), "clip"), ("mix", (128, 128), "wrap"), ("mix", (0,), "fold"), ("taps", (-255,), "clip"),
               ("mix", (64, 64, 64, 64), "clip"), ("taps", (1,) * 8, "clip"), ("taps", (200, -56), "clip")]
        no = [("taps", (-256,), "clip"), ("mix", (129, 128), "wrap"), ("mix", (256, 256), "fold"),
              ("mix", (256, -1), "clip"), ("taps", (128, 127, 2), "fold")]
        for part in yes:
            self.tells_truth(never_folds(part=part), True)
        for part in no:
            self.tells_truth(never_folds(part), False)

    def test_never_folds_by_a_machine(self):
        counts = {True: 0, False: 0}
        for _, part in random_parts(4, 400):
            folds = False
            for gets in reaching(part):
                machine = PlainMachine(patch_of(part))
                rows = rows_for(part, gets)
                for at in range(max(len(row) for row in rows.values())):
                    machine.sample({name: row[at] for name, row in rows.items()})
                folds = folds or machine.workers()["it"].was_folded()
            self.tells_truth(never_folds(part), not folds)
            counts[folds] += 1
        self.assertGreater(min(counts.values()), 50)

    def test_the_rest_of_the_division(self):
        # 255 times -2048 and one times 2047 more come to just less than -2047.5 times 256.
        for factor in range(-256, 257):
            for second in (0, 1, -1, 2, -2):
                part = ("mix", (factor, second), "clip")
                least, greatest = bounds(part)[:2]
                self.tells_truth(never_folds(part), -2048 <= (least + 128) // 256 and (greatest + 128) // 256 <= 2047)

    def test_refused(self):
        others = [part for kind, part in PARTS.items() if kind not in ("taps", "mix")]
        for thing in any_things() + others + [("taps", (), "clip"), ("taps", (257,), "clip"), ("mix", (1,) * 5, "clip"),
                                              ("taps", [1], "clip"), ["taps", (1,), "clip"], ("mix", (1,), "clop")]:
            for deed in (bounds, reaching, never_folds):
                self.refused(NoPart, thing, deed, thing)


if __name__ == "__main__":
    unittest.main()
