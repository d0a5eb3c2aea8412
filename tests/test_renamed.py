"""Point 9: where parts, ins and outs are called otherwise, in the same order, all is told likewise."""

import unittest

from cordsounds.blocks import BlockMachine
from cordsounds.choir import Choir
from cordsounds.errors import Ring
from cordsounds.live import Live
from cordsounds.parts import settings_of
from cordsounds.patch import Patch
from cordsounds.plain import PlainMachine, run
from cordsounds.smaller import smaller, steady, unheard
from cordsounds.songs import Song
from cordsounds.sounder import Sounder
from patches import (
    INS, VOICE_INS, at, lists_of, of_voices, random_lists, random_names, random_order, random_patches, random_rows)
from songlists import random_song
from things import SoundTest


class Names:
    """Other names of parts, outs and ins."""

    def __init__(self, chance, lists):
        self.parts = self.others(chance, [name for name, _ in lists[0]])
        self.outs = self.others(chance, [name for name, _ in lists[2]])
        self.ins = self.others(chance, list(INS) + ["other"])
        # What a voice gets is called so, and nothing else may be.
        self.ins.update({name: name for name in VOICE_INS[:3]})

    def others(self, chance, names):
        return dict(zip(names, random_names(chance, len(names))))

    def of_part(self, part):
        return ("from", self.ins[part[1]]) if part[0] == "from" else part

    def of_lists(self, lists):
        parts, cords, outs = lists
        return ([(self.parts[name], self.of_part(part)) for name, part in parts],
                [(self.parts[start], self.parts[goal], port) for start, goal, port in cords],
                [(self.outs[name], self.parts[part]) for name, part in outs])

    def of_rows(self, rows):
        return {self.ins[name]: row for name, row in rows.items()}

    def of_told(self, told):
        return {self.outs[name]: thing for name, thing in told.items()}

    def of_foldings(self, foldings):
        return [(self.parts[name], sample) for name, sample in foldings]

    def of_stands(self, stands):
        return tuple((self.of_part(row[0]),) + row[1:] for row in stands)


class RenamedTest(SoundTest):
    def pairs(self, seed):
        for chance, lists in random_patches(seed, 60):
            names = Names(chance, lists)
            yield chance, names, Patch(*lists), Patch(*names.of_lists(lists))

    def alike(self, told, other):
        """Sees to it that both are equal, and their keys in the same order."""
        self.assertEqual(list(told.items()), list(other.items()))

    def test_patches(self):
        for chance, names, patch, other in self.pairs(41):
            self.assertEqual(other.order(), [names.parts[name] for name in patch.order()])
            self.assertEqual(other.ins(), [names.ins[name] for name in patch.ins()])
            self.assertEqual(lists_of(other), names.of_lists(lists_of(patch)))
            order = random_order(chance, patch)
            self.tells_truth(other.is_order([names.parts[name] for name in order]), True)

    def test_rings(self):
        rings = 0
        for chance, lists in random_patches(42, 200):
            parts, cords, outs = random_lists(chance, 8, kinds=("mix", "times", "taps", "delay"))
            goals = {name: chance.choice(parts)[0] for name, _ in parts}
            lists = (parts, [(goals[start], goal, port) for start, goal, port in cords], outs)
            names = Names(chance, lists)
            try:
                Patch(*lists)
            except Ring as ring:
                rings += 1
                self.refused_of(Ring, [names.parts[name] for name in ring.found], Patch, *names.of_lists(lists))
        self.assertGreater(rings, 50)

    def test_machines(self):
        for chance, names, patch, other in self.pairs(43):
            rows = random_rows(chance, 50)
            self.alike(run(other, names.of_rows(rows), 50), names.of_told(run(patch, rows, 50)))
            machines = PlainMachine(patch), PlainMachine(other)
            for sample in range(50):
                told = machines[0].sample(at(rows, sample))
                self.alike(machines[1].sample(names.of_rows(at(rows, sample))), names.of_told(told))
            self.as_well(names, *machines)
            for name, _ in patch.parts():
                self.assertEqual(machines[0].worth(name), machines[1].worth(names.parts[name]))

    def test_block_machines(self):
        for chance, names, patch, other in self.pairs(44):
            rows, size, order = random_rows(chance, 50), chance.randint(1, 64), random_order(chance, patch)
            machine = BlockMachine(patch, size, order=order)
            renamed = BlockMachine(other, size, order=[names.parts[name] for name in order])
            self.alike(renamed.run(names.of_rows(rows), 50), names.of_told(machine.run(rows, 50)))
            self.assertEqual(machine.blocks(), renamed.blocks())
            self.as_well(names, machine, renamed)

    def as_well(self, names, machine, renamed):
        self.assertEqual(renamed.foldings(), names.of_foldings(machine.foldings()))
        self.assertEqual(renamed.stands(), names.of_stands(machine.stands()))
        self.assertEqual(renamed.time(), machine.time())

    def test_lives(self):
        for chance, names, patch, other in self.pairs(45):
            live, renamed, rows = Live(patch), Live(other), random_rows(chance, 30)
            for name, part in patch.parts():
                for setting in settings_of(part):
                    over = chance.choice([0, 5, 40])
                    live.turn(name, setting, 99, over=over)
                    renamed.turn(names.parts[name], setting, 99, over=over)
            for sample in range(30):
                if sample == 9 and patch.cords():
                    start, goal, port = patch.cords()[0]
                    live.take_cord(goal, port)
                    renamed.take_cord(names.parts[goal], port)
                told = live.sample(at(rows, sample))
                self.alike(renamed.sample(names.of_rows(at(rows, sample))), names.of_told(told))
                self.assertEqual([(names.parts[row[0]],) + row[1:] for row in live.turning()], renamed.turning())
            self.assertEqual(renamed.foldings(), names.of_foldings(live.foldings()))
            self.assertEqual(lists_of(renamed.patch()), names.of_lists(lists_of(live.patch())))

    def voice_pairs(self, seed):
        for chance, lists in random_patches(seed, 40):
            lists = of_voices(chance, lists)
            names = Names(chance, lists)
            yield chance, names, Patch(*lists), Patch(*names.of_lists(lists))

    def test_choirs(self):
        for chance, names, patch, other in self.voice_pairs(46):
            choir, renamed = Choir(patch, 3), Choir(other, 3)
            for _ in range(30):
                key = chance.randint(60, 64)
                self.assertEqual(choir.press(key), renamed.press(key))
                self.assertEqual(choir.let_go(key + 1), renamed.let_go(key + 1))
                for name, part in patch.parts():
                    for setting in settings_of(part):
                        choir.turn(name, setting, key, over=9)
                        renamed.turn(names.parts[name], setting, key, over=9)
                told = choir.sample()
                self.alike(renamed.sample(), names.of_told(told))
                self.assertEqual(renamed.was_clipped(), [names.outs[name] for name in choir.was_clipped()])
            self.assertEqual(renamed.foldings(), [(row[0], names.parts[row[1]], row[2]) for row in choir.foldings()])
            self.assertEqual((renamed.voices(), renamed.stolen()), (choir.voices(), choir.stolen()))

    def test_songs_and_sounders(self):
        for chance, names, patch, other in self.voice_pairs(47):
            patterns, row, tempos = random_song(chance)
            keys = names.others(chance, list(patterns))
            song = Song(patterns, row, tempos)
            again = Song({keys[name]: steps for name, steps in patterns.items()}, [keys[name] for name in row], tempos)
            self.assertEqual((song.notes(), song.deeds(), song.ticks()), (again.notes(), again.deeds(), again.ticks()))
            sounder, renamed = Sounder(patch, 2, song=song), Sounder(other, 2, song=again)
            for one in (sounder, renamed):
                one.press(60)
                one.samples(9)
                one.save("a")
                one.samples(30)
                one.put_back("a")
                one.samples(9)
            self.alike(renamed.recorded(), names.of_told(sounder.recorded()))
            self.alike(renamed.clipped(), names.of_told(sounder.clipped()))

    def test_smaller_ones(self):
        for _, names, patch, other in self.pairs(48):
            for deed in (unheard, steady):
                self.assertEqual(deed(other), [names.parts[name] for name in deed(patch)])
            self.assertEqual(lists_of(smaller(other)), names.of_lists(lists_of(smaller(patch))))


if __name__ == "__main__":
    unittest.main()
