"""Points 8, 32: rings without a delay are refused with the first of the shortest ones, all others run."""

import random
import unittest

from cordsounds.errors import Ring
from cordsounds.patch import Patch
from cordsounds.plain import run
from patches import random_names
from things import SoundTest

MIX = ("mix", (256, 256, 256, 256), "clip")
NAMES = ["z", "y", "x", "w", "v", "u", "t", "s", "r", "q", "p", "o"]


def all_rings(many, cords, delays=()):
    """All rings as lists of numbers, each begun with its least, of cords from number to number."""
    leads = {at: sorted({goal for start, goal in cords if start == at and goal not in delays})
             for at in range(many) if at not in delays}
    found = []

    def go_on(ring):
        for near in leads[ring[-1]]:
            if near == ring[0]:
                found.append(ring)
            elif near > ring[0] and near not in ring:
                go_on(ring + [near])

    for first in leads:
        go_on([first])
    return found


def made(many, cords, delays=(), names=NAMES):
    """A Patch of mixers and delays, of cords from number to number, each into the next port."""
    parts = [(names[at], ("delay", 1 + at) if at in delays else MIX) for at in range(many)]
    taken = [0] * many
    rows = []
    for start, goal in cords:
        ports = ["in"] if goal in delays else ["a", "b", "c", "d"]
        rows.append((names[start], names[goal], ports[taken[goal]]))
        taken[goal] += 1
    return Patch(parts, rows, [("main", names[0])])


class RingTest(SoundTest):
    def rings(self, many, cords, ring, delays=()):
        self.refused_of(Ring, [NAMES[at] for at in ring], made, many, cords, delays)

    def test_of_one_part(self):
        self.rings(1, [(0, 0)], [0])
        self.rings(3, [(1, 2), (2, 1), (2, 2)], [2])
        self.rings(3, [(2, 2), (1, 1)], [1])

    def test_of_two_and_more(self):
        self.rings(2, [(0, 1), (1, 0)], [0, 1])
        self.rings(4, [(3, 2), (2, 1), (1, 3), (0, 1)], [1, 3, 2])
        self.rings(12, [(at, (at + 1) % 12) for at in range(12)], list(range(12)))
        self.rings(12, [((at + 1) % 12, at) for at in range(12)], [0] + list(range(11, 0, -1)))

    def test_each_has_a_cord_from_the_one_ahead(self):
        self.rings(3, [(0, 2), (2, 1), (1, 0)], [0, 2, 1])
        self.rings(3, [(0, 1), (1, 2), (2, 0)], [0, 1, 2])

    def test_the_shortest_one(self):
        self.rings(5, [(0, 1), (1, 2), (2, 0), (3, 4), (4, 3)], [3, 4])
        self.rings(5, [(0, 1), (1, 2), (2, 0), (2, 1)], [1, 2])

    def test_the_first_of_several_of_the_same_length(self):
        self.rings(6, [(4, 5), (5, 4), (3, 2), (2, 3), (0, 2)], [2, 3])
        self.rings(4, [(0, 3), (3, 0), (0, 2), (2, 0)], [0, 2])
        self.rings(6, [(0, 4), (4, 1), (1, 0), (0, 3), (3, 5), (5, 0)], [0, 3, 5])
        self.rings(6, [(0, 1), (1, 5), (5, 0), (1, 4), (4, 0)], [0, 1, 4])

    def test_two_cords_between_the_same_parts(self):
        self.rings(2, [(0, 1), (0, 1), (1, 0), (1, 0)], [0, 1])

    def test_through_a_delay_is_none(self):
        for delays, cords in (((0,), [(0, 0)]), ((1,), [(0, 1), (1, 0)]), ((0, 1), [(0, 1), (1, 0)]),
                              ((3,), [(0, 1), (1, 2), (2, 3), (3, 0)])):
            told = run(made(4, cords, delays), {}, 20)
            self.assertEqual(told, {"main": [0] * 20})

    def test_beside_a_delay(self):
        self.rings(3, [(0, 1), (1, 0), (2, 0), (0, 2)], [0, 1], delays=(2,))
        self.rings(4, [(0, 1), (1, 2), (2, 0), (3, 0), (2, 3)], [0, 1, 2], delays=(3,))

    def test_of_a_waves_pitch_and_a_shapes_gate(self):
        for part, port in ((("wave", "saw", 1), "pitch"), (("shape", 1, 1, 1, 1), "gate"), (("follow", 1), "in"),
                           (("taps", (0, 256), "clip"), "in"), (("times", "clip"), "b")):
            self.refused_of(Ring, ["a"], Patch, [("a", part)], [("a", "a", port)], [("o", "a")])

    def test_by_chance(self):
        chance, rings = random.Random(5), 0
        for _ in range(600):
            many = chance.randint(1, 12)
            delays = [at for at in range(many) if chance.random() < 0.2]
            places = [goal for goal in range(many) for _ in range(1 if goal in delays else 4)]
            cords = [(chance.randrange(many), goal) for goal in places if chance.random() < chance.choice([0.2, 0.4])]
            names = random_names(chance, many)
            found = sorted(all_rings(many, cords, delays), key=lambda ring: (len(ring), ring))
            if found:
                rings += 1
                self.refused_of(Ring, [names[at] for at in found[0]], made, many, cords, delays, names)
            else:
                run(made(many, cords, delays, names), {}, 3)
        self.assertTrue(100 < rings < 500)


if __name__ == "__main__":
    unittest.main()
