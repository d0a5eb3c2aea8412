"""Workers: parts at work, sample by sample.

What a part keeps between two samples is a tuple, just what stands behind the part
where its Worker tells how it stands. A step takes a part, what it keeps and its ins;
it tells the worth, what is kept from there on, and whether the worth was folded.
"""

from cordsounds.errors import NoIns, NoPart
from cordsounds.numbers import folded, is_folded, is_name, is_worth, next_noise, table_worth
from cordsounds.parts import has_factors, is_part, ports_of

MOST_INS = 8
TOP = 2047
SLOW_SAMPLES = 16
PHASES = 4096

_AT_FIRST = {
    "from": (),
    "wave": (0,),
    "slow": (0, 0),
    "shape": (0, "rest"),
    "mix": (),
    "times": (),
    "follow": (0,),
}


def _kept_at_first(part):
    kind = part[0]
    if kind == "noise":
        return (part[1],)
    if kind == "taps":
        return ((0,) * (len(part[1]) - 1),)
    if kind == "delay":
        return ((0,) * part[1],)
    return _AT_FIRST[kind]


def _slow_ahead(part, kept):
    return table_worth(part[1], kept[0] // 64)


def _noise_ahead(part, kept):
    return kept[0] - 2048


def _delay_ahead(part, kept):
    return kept[0][0]


_AHEADS = {"slow": _slow_ahead, "noise": _noise_ahead, "delay": _delay_ahead}


def _from_step(part, kept, ins):
    return ins.get(part[1], 0), kept, False


def _wave_step(part, kept, ins):
    phase = kept[0]
    onward = phase + part[2] + ins.get("pitch", 0) // 16
    return table_worth(part[1], phase // 64), (onward % PHASES,), False


def _slow_step(part, kept, ins):
    phase, told = kept
    worth = _slow_ahead(part, kept)
    if told + 1 < SLOW_SAMPLES:
        return worth, (phase, told + 1), False
    return worth, ((phase + part[2]) % PHASES, 0), False


def _noise_step(part, kept, ins):
    return _noise_ahead(part, kept), (next_noise(kept[0]),), False


def _shape_step(part, kept, ins):
    level, word = kept
    stands = _shape_moved(part, level, _shape_word(word, ins.get("gate", 0)))
    return stands[0], stands, False


def _shape_word(word, gate):
    if gate > 0 and word in ("rest", "away"):
        return "up"
    if gate <= 0 and word in ("up", "down", "stay"):
        return "away"
    return word


def _shape_moved(part, level, word):
    _, up, down, stay, away = part
    if word == "up":
        higher = min(TOP, level + up)
        return (higher, "down" if higher == TOP else "up")
    if word == "down":
        lower = max(stay, level - down)
        return (lower, "stay" if lower == stay else "down")
    if word == "stay":
        return (stay, "stay")
    if word == "away":
        lower = max(0, level - away)
        return (lower, "rest" if lower == 0 else "away")
    return (0, "rest")


def _taps_step(part, kept, ins):
    got = (ins.get("in", 0),) + kept[0]
    number = _weighed(part[1], got)
    return folded(number, part[2]), (got[:-1],), is_folded(number, part[2])


def _mix_step(part, kept, ins):
    number = _weighed(part[1], [ins.get(port, 0) for port in ports_of(part)])
    return folded(number, part[2]), kept, is_folded(number, part[2])


def _weighed(factors, worths):
    total = sum([factor * worth for factor, worth in zip(factors, worths)])
    return (total + 128) // 256


def _times_step(part, kept, ins):
    number = (ins.get("a", 0) * ins.get("b", 0) + 1024) // 2048
    return folded(number, part[1]), kept, is_folded(number, part[1])


def _delay_step(part, kept, ins):
    line = kept[0]
    return line[0], (line[1:] + (ins.get("in", 0),),), False


def _follow_step(part, kept, ins):
    # Of the least worth what is without its sign would be no worth.
    loud = min(TOP, abs(ins.get("in", 0)))
    level = max(loud, kept[0] - part[1], 0)
    return level, (level,), False


_STEPS = {
    "from": _from_step,
    "wave": _wave_step,
    "slow": _slow_step,
    "noise": _noise_step,
    "shape": _shape_step,
    "taps": _taps_step,
    "mix": _mix_step,
    "times": _times_step,
    "delay": _delay_step,
    "follow": _follow_step,
}


def _form(part):
    """What a part must have in common with the one in whose place it is given."""
    if has_factors(part):
        return (part[0], len(part[1]))
    if part[0] == "delay":
        return part
    return (part[0],)


def _are_ins(thing):
    if not isinstance(thing, dict) or len(thing) > MOST_INS:
        return False
    return all([is_name(name) and is_worth(worth) for name, worth in thing.items()])


class Worker:
    """A part at work, new when it is made; it goes on by each sample."""

    def __init__(self, part):
        if not is_part(part):
            raise NoPart(part)
        self._part = part
        self._kept = _kept_at_first(part)
        self._folded_last = False

    def part(self):
        """The part that is at work."""
        return self._part

    def ahead(self):
        """The next worth where it doesn't hang on what comes in at that sample, else None."""
        kind = self._part[0]
        if kind not in _AHEADS:
            return None
        tell = _AHEADS[kind]
        return tell(self._part, self._kept)

    def sample(self, ins):
        """Does a sample and tells its worth."""
        if not _are_ins(ins):
            raise NoIns(ins)
        step = _STEPS[self._part[0]]
        worth, self._kept, self._folded_last = step(self._part, self._kept, ins)
        return worth

    def was_folded(self):
        """Whether the last sample was folded."""
        return self._folded_last

    def give(self, part):
        """Takes another part of the same form, and keeps all else."""
        if not is_part(part) or _form(part) != _form(self._part):
            raise NoPart(part)
        self._part = part

    def stands(self):
        """The part and what it keeps, a tuple."""
        return (self._part,) + self._kept

    def twin(self):
        """Another Worker that stands so, and goes its own way."""
        other = Worker(self._part)
        other._kept = self._kept
        other._folded_last = self._folded_last
        return other

    def __eq__(self, other):
        return isinstance(other, Worker) and self.stands() == other.stands()
