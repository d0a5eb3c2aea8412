"""What several tests need: any things, and how a refusal is looked at."""

import unittest

from cordsounds.blocks import BlockMachine
from cordsounds.choir import Choir
from cordsounds.desk import Desk
from cordsounds.errors import NoNumber, Over, Ring, SoundError
from cordsounds.live import Live
from cordsounds.patch import Patch
from cordsounds.plain import PlainMachine
from cordsounds.songs import Song
from cordsounds.sounder import Sounder
from cordsounds.workers import Worker

HUGE = 10 ** 30 - 1
PARTS = {
    "from": ("from", "left"),
    "wave": ("wave", "saw", 100),
    "slow": ("slow", "tri", 100),
    "noise": ("noise", 7),
    "shape": ("shape", 1000, 500, 300, 200),
    "taps": ("taps", (64, -128, 256), "clip"),
    "mix": ("mix", (256, -256), "wrap"),
    "times": ("times", "fold"),
    "delay": ("delay", 3),
    "follow": ("follow", 10),
}


def a_song():
    return Song({"a": [(1, 0, 1)]}, ["a"], [(0, 1)])


def any_things():
    """Any things that are no part, no name of anything, and no number but 0, 1 and worse ones."""
    patch = Patch([("a", ("noise", 1))], [], [("a", "a")])
    return [
        True, False, None, -(10 ** 30 - 1), 10 ** 30 - 1, "", " ", "\n", "Clip", "clip ", "A", "1", "a1",
        "abcdefghi", "~" * 4000, [], (), {}, [0], (0,), [True], ["clip"], ("clip",), {"clip": True}, {0: "clip"},
        {None: []}, {(1, ("a",)): {}}, [[[[[[None]]]]]], [0] * 650, (None,) * 650, {at: at for at in range(650)},
        Worker(("noise", 1)), NoNumber(3), SoundError("text"), Over([1]), Ring(found=None),
        patch, PlainMachine(patch), BlockMachine(patch, 1), Live(patch), [patch], (patch,), {"a": patch},
        Choir(patch, 1), a_song(), Sounder(patch, 1), Desk(), [a_song()],
    ]


def no_ins():
    """Any things that are no ins of a sample, and some that nearly are."""
    return [thing for thing in any_things() if thing != {}] + [
        {"left": True}, {"left": 2048}, {"left": -2049}, {"left": HUGE}, {"left": None}, {"left": [1]}, {"Left": 1},
        {"left": 1, 2: 1}, {"left": 1, "right": "1"}, {"": 0}, [("left", 1)], {("left",): 1}, {"abcdefghi": 0}]


def no_rows():
    """Any things that are no ins of a run, and some that nearly are."""
    return [thing for thing in any_things() if thing != {}] + [
        {"left": 1}, {"left": None}, {"left": [True]}, {"left": [0, 2048]}, {"left": (-2049,)}, {"left": [[1]]},
        {"Left": [1]}, {"left": [1], 2: [1]}, {"left": [1], "right": "1"}, {"left": {0: 1}}, [("left", [1])]]


class SoundTest(unittest.TestCase):
    def refused(self, refusal, found, deed, *args, **named):
        """Sees to it that a deed is refused just so, with the very thing, and changes nothing handed in."""
        before = repr((args, named))
        with self.assertRaises(refusal) as caught:
            deed(*args, **named)
        self.assertIs(caught.exception.__class__, refusal)
        self.assertIs(caught.exception.found, found)
        self.assertEqual(repr((args, named)), before)

    def refused_of(self, refusal, found, deed, *args, **named):
        """Likewise, where what the refusal has is a new thing, equal to the one told."""
        before = repr((args, named))
        with self.assertRaises(refusal) as caught:
            deed(*args, **named)
        self.assertIs(caught.exception.__class__, refusal)
        self.assertIs(caught.exception.found.__class__, found.__class__)
        self.assertEqual(caught.exception.found, found)
        self.assertEqual(repr((args, named)), before)

    def tells_truth(self, answer, wanted):
        """Sees to it that the answer is True or False itself, and the wanted one."""
        self.assertIs(answer, wanted)
