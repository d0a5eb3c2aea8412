"""Songs: patterns of steps, a row of these, and the tempos by which their ticks fall on samples."""

from cordsounds.errors import NoKey, NoName, NoNumber, NoSong
from cordsounds.keys import MOST_KEY, is_force, is_key
from cordsounds.numbers import is_name, is_whole
from cordsounds.patch import is_list

BEAT = 48
MOST_STEPS = 16
MOST_PATTERNS = 8
MOST_ROW = 16
MOST_TEMPOS = 8
MOST_TICKS = 960
MOST_SAMPLES = 960
LAST_TICK = 20000
MOST_FACTOR = 8


def _is_list_up_to(thing, most):
    return is_list(thing) and 1 <= len(thing) <= most


def is_ticks(thing):
    """Whether a step may be so many ticks long."""
    return is_whole(thing, 1, MOST_TICKS)


def is_tempo_samples(thing):
    """Whether a beat may last so many samples."""
    return is_whole(thing, 1, MOST_SAMPLES)


def _is_step(thing):
    if not isinstance(thing, tuple) or len(thing) != 3:
        return False
    ticks, key, force = thing
    return is_ticks(ticks) and (key is None or is_key(key)) and is_force(force)


def is_pattern(thing):
    """Whether it is a pattern."""
    return _is_list_up_to(thing, MOST_STEPS) and all([_is_step(step) for step in thing])


def _are_patterns(thing):
    if not isinstance(thing, dict) or not 1 <= len(thing) <= MOST_PATTERNS:
        return False
    return all([is_name(name) and is_pattern(pattern) for name, pattern in thing.items()])


def _is_row(thing, patterns):
    if not _is_list_up_to(thing, MOST_ROW):
        return False
    return all([is_name(name) and name in patterns for name in thing])


def _is_tempo(thing):
    if not isinstance(thing, tuple) or len(thing) != 2:
        return False
    return is_whole(thing[0], 0, LAST_TICK) and is_tempo_samples(thing[1])


def _are_tempos(thing):
    if not _is_list_up_to(thing, MOST_TEMPOS) or not all([_is_tempo(tempo) for tempo in thing]):
        return False
    ticks = [tick for tick, _ in thing]
    return ticks[0] == 0 and all([ahead < behind for ahead, behind in zip(ticks, ticks[1:])])


class Song:
    """Patterns, a row of their names, and tempos; it never changes, other ones are made of it."""

    def __init__(self, patterns, row, tempos):
        if not _are_patterns(patterns):
            raise NoSong(patterns)
        if not _is_row(row, patterns):
            raise NoSong(row)
        if not _are_tempos(tempos):
            raise NoSong(tempos)
        self._patterns = {name: list(pattern) for name, pattern in patterns.items()}
        self._row = list(row)
        self._tempos = list(tempos)

    def sample_of(self, tick):
        """The sample on which a tick falls."""
        if not is_whole(tick, 0, LAST_TICK):
            raise NoNumber(tick)
        return self._sample_at(tick)

    def _sample_at(self, tick):
        """Likewise of a tick without an end; the samples of all ticks are summed ahead of the division."""
        begins = [begin for begin, _ in self._tempos]
        ends = begins[1:] + [max(tick, begins[-1])]
        stretches = [samples * max(0, min(tick, end) - begin) for (begin, samples), end in zip(self._tempos, ends)]
        return sum(stretches) // BEAT

    def _steps(self):
        """All steps by the row, one behind the other."""
        return [step for name in self._row for step in self._patterns[name]]

    def ticks(self):
        """How many ticks it has."""
        return sum([ticks for ticks, _, _ in self._steps()])

    def notes(self):
        """Of each step that has a key the samples at which it begins and ends, the key and the force."""
        found = []
        tick = 0
        for ticks, key, force in self._steps():
            if key is not None:
                found.append((self._sample_at(tick), self._sample_at(tick + ticks), key, force))
            tick += ticks
        return found

    def deeds(self):
        """What is done at samples, a key's end ahead of the begin of another."""
        sounding = [note for note in self.notes() if note[0] < note[1]]
        ups = [(ends, "up", key, None) for _, ends, key, _ in sounding]
        downs = [(begins, "down", key, force) for begins, _, key, force in sounding]
        # Sorting keeps the order of what is done at one sample.
        return sorted(ups + downs, key=lambda deed: deed[0])

    def patterns(self):
        """Its patterns by their names."""
        return {name: list(pattern) for name, pattern in self._patterns.items()}

    def row(self):
        """The names of the patterns, as they stand one behind the other."""
        return list(self._row)

    def tempos(self):
        """Its tempos."""
        return list(self._tempos)

    def with_tempos(self, tempos):
        """Another Song, of other tempos."""
        return Song(self._patterns, self._row, tempos)

    def with_pattern(self, name, pattern):
        """Another Song, with a pattern more, or instead of the one of this name."""
        if not is_name(name):
            raise NoName(name)
        if not is_pattern(pattern):
            raise NoSong(pattern)
        patterns = self.patterns()
        patterns[name] = list(pattern)
        return Song(patterns, self._row, self._tempos)

    def __eq__(self, other):
        if not isinstance(other, Song):
            return False
        return (self._patterns == other._patterns and self._row == other._row
                and self._tempos == other._tempos)


def moved(pattern, keys):
    """The pattern with each key so many keys higher, or lower."""
    if not is_pattern(pattern):
        raise NoSong(pattern)
    if not is_whole(keys, -MOST_KEY, MOST_KEY):
        raise NoNumber(keys)
    found = [(ticks, None if key is None else key + keys, force) for ticks, key, force in pattern]
    for _, key, _ in found:
        if key is not None and not is_key(key):
            raise NoKey(key)
    return found


def _is_factor(thing):
    if not isinstance(thing, tuple) or len(thing) != 2:
        return False
    return all([is_whole(number, 1, MOST_FACTOR) for number in thing])


def stretched(pattern, factor):
    """The pattern with all ticks times a factor; what a division leaves is kept to the next step."""
    if not is_pattern(pattern):
        raise NoSong(pattern)
    if not _is_factor(factor):
        raise NoNumber(factor)
    num, den = factor
    found = []
    left = 0
    for ticks, key, force in pattern:
        left += ticks * num
        if left >= den:
            found.append((left // den, key, force))
        left = left % den
    return found
