"""Points 5, 8, 9: all machines tell the same of the same Patch, in whatever way it comes to sound."""

import unittest

from cordsounds.blocks import BlockMachine
from cordsounds.choir import Choir
from cordsounds.desk import Desk
from cordsounds.live import Live
from cordsounds.logtexts import log_text, read_log, read_samples, samples_text
from cordsounds.patch import Patch
from cordsounds.plain import PlainMachine, run
from cordsounds.smaller import smaller
from cordsounds.songs import Song
from cordsounds.sounder import Sounder, replayed
from cordsounds.texts import patch_text, read_patch, read_song, song_text
from patches import of_voices, random_order, random_patches
from songlists import random_song
from things import SoundTest

MANY = 60


def patches(seed, many):
    for chance, lists in random_patches(seed, many):
        yield chance, Patch(*of_voices(chance, lists))


class OneKeyTest(SoundTest):
    """One key, pressed at the first sample and let go of at another one."""

    def rows(self, key, force, held):
        return {"gate": [1] * held, "pitch": [16 * key - 1024] * MANY, "force": [force] * MANY}

    def one_by_one(self, machine, rows):
        told = {name: [] for name, _ in machine.patch().outs()}
        for at in range(MANY):
            for name, worth in machine.sample({name: row[at] for name, row in rows.items() if at < len(row)}).items():
                told[name].append(worth)
        return told

    def by_a_choir(self, patch, key, force, held):
        choir, told = Choir(patch, 3), {name: [] for name, _ in patch.outs()}
        choir.press(key, force)
        for at in range(MANY):
            if at == held:
                choir.let_go(key)
            for name, worth in choir.sample().items():
                told[name].append(worth)
        return told

    def by_a_sounder(self, patch, key, force, held):
        sounder = Sounder(patch, 2)
        sounder.press(key, force)
        sounder.samples(held)
        sounder.let_go(key)
        sounder.samples(MANY - held)
        log = read_log(log_text(sounder.log()))
        self.assertEqual(replayed(patch, 2, log, MANY).recorded(), sounder.recorded())
        return sounder.recorded()

    def by_a_song(self, patch, key, force, held):
        # A beat of 48 samples makes a tick a sample.
        song = read_song(song_text(Song({"a": [(held, key, force)]}, ["a"], [(0, 48)])))
        sounder = Sounder(patch, 1, song=song)
        return sounder.samples(MANY)

    def by_a_desk(self, patch, key, force, held):
        desk = Desk()
        text = " / ".join(patch_text(patch).split("\n"))
        answers = desk.say_all(["patch p " + text, "open p 1", f"press {key} {force}", f"go {held}", f"letgo {key}"])
        rows = [answers[3], desk.say(f"go {MANY - held}")]
        told = [read_samples("\n".join(row.split("; "))) for row in rows]
        return {name: row + told[1][name] for name, row in told[0].items()}

    def test_by_all_machines(self):
        for chance, patch in patches(81, 100):
            key, force, held = chance.randint(0, 127), chance.randint(1, 2047), chance.randint(1, MANY - 1)
            rows = self.rows(key, force, held)
            wanted = run(patch, rows, MANY)
            again = read_patch(patch_text(patch))
            blocks = BlockMachine(again, chance.randint(1, 64), order=random_order(chance, again))
            told = [self.one_by_one(PlainMachine(patch), rows), self.one_by_one(Live(again), rows), blocks.run(rows, MANY),
                    run(smaller(patch), rows, MANY), read_samples(samples_text(wanted))]
            for way in (self.by_a_choir, self.by_a_sounder, self.by_a_song, self.by_a_desk):
                told += [way(patch, key, force, held), way(smaller(again), key, force, held)]
            for rows in told:
                self.assertEqual(list(rows.items()), list(wanted.items()))


class ManyKeysTest(SoundTest):
    def test_a_song_by_hand(self):
        for chance, patch in patches(82, 40):
            song = Song(*random_song(chance))
            one, other = Sounder(patch, 3, song=song), Sounder(patch, 3)
            deeds = song.deeds()
            for sample in range(MANY):
                for at, word, key, force in deeds:
                    if at == sample and word == "up":
                        other.let_go(key)
                    elif at == sample:
                        other.press(key, force)
                self.assertEqual(one.samples(1), other.samples(1))
            self.assertEqual((one.recorded(), one.clipped()), (other.recorded(), other.clipped()))
            self.assertEqual(one.choir(), other.choir())

    def test_a_smaller_patch_by_voices(self):
        for chance, patch in patches(83, 40):
            song = Song(*random_song(chance))
            one, other = [Sounder(made, 4, song=song) for made in (patch, smaller(patch))]
            for _ in range(5):
                key = chance.randint(60, 66)
                self.assertEqual(one.press(key), other.press(key))
                self.assertEqual(one.samples(12), other.samples(12))
            self.assertEqual(one.clipped(), other.clipped())


if __name__ == "__main__":
    unittest.main()
