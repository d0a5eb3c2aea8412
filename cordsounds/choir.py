"""Choirs: voices that are given to keys and stolen from them, and that sound together."""

from cordsounds.errors import NoKey, NoNumber, NoPatch, NoTruth
from cordsounds.keys import is_force, is_key
from cordsounds.live import Live
from cordsounds.numbers import folded, is_folded, is_whole
from cordsounds.patch import Patch
from cordsounds.voices import DOWN, FREE, HELD, WORDS, Voice

MOST_VOICES = 6
MANNER = "clip"


def check_choir(patch, many):
    """Refuses what no Choir may be made of."""
    if not isinstance(patch, Patch):
        raise NoPatch(patch)
    if not is_whole(many, 1, MOST_VOICES):
        raise NoNumber(many)


class Choir:
    """A Patch and the voices that sound by it; what is done holds from the next sample on."""

    def __init__(self, patch, many):
        check_choir(patch, many)
        self._patch = patch
        self._voices = [Voice() for _ in range(many)]
        self._down = False
        self._time = 0
        self._deeds = 0
        self._stolen = []
        self._too_loud = []

    def sample(self):
        """Does a sample of all voices, and tells of each out their clipped sum."""
        sums = {name: 0 for name, _ in self._patch.outs()}
        for voice in self._begun():
            told = voice.live.sample(voice.comes_in())
            for name, worth in told.items():
                sums[name] += worth
        self._time += 1
        self._too_loud = [name for name, total in sums.items() if is_folded(total, MANNER)]
        return {name: folded(total, MANNER) for name, total in sums.items()}

    def _begun(self):
        """The voices that ever had a key."""
        return [voice for voice in self._voices if voice.live is not None]

    def press(self, key, force=1024):
        """Gives a voice to a key, where none is left a stolen one, and tells which."""
        if not is_key(key):
            raise NoKey(key)
        if not is_force(force):
            raise NoNumber(force)
        at = self._voice_for(key)
        voice = self._voices[at]
        if voice.key != key and voice.word != FREE:
            self._stolen.append((self._time, at, voice.key))
        voice.begin(self._patch, key, force, self._next_rank(), self._time)
        return at

    def _voice_for(self, key):
        keys = [voice.key for voice in self._voices]
        if key in keys:
            return keys.index(key)
        if None in keys:
            return keys.index(None)
        order = self._in_order(FREE) + self._in_order(HELD) + self._in_order(DOWN)
        return order[0]

    def _in_order(self, word):
        """The numbers of the voices that came to a word, in the order in which they did."""
        rows = sorted([(voice.rank, at) for at, voice in enumerate(self._voices)
                       if voice.word == word and voice.key is not None])
        return [at for _, at in rows]

    def _next_rank(self):
        self._deeds += 1
        return self._deeds

    def let_go(self, key):
        """Lets go of a key, and tells its voice, None where the key isn't down."""
        if not is_key(key):
            raise NoKey(key)
        places = [at for at in self._in_order(DOWN) if self._voices[at].key == key]
        if not places:
            return None
        self._voices[places[0]].come(HELD if self._down else FREE, self._next_rank())
        return places[0]

    def pedal(self, down):
        """Brings the pedal down or up; going up, it frees all voices that are held."""
        if not isinstance(down, bool):
            raise NoTruth(down)
        self._down = down
        if not down:
            for voice in self._voices:
                if voice.word == HELD:
                    voice.come(FREE, self._next_rank())

    def turn(self, name, setting, number, *, over=0):
        """Turns a setting in all voices; voices that begin later have the number at once."""
        # What is refused must be known ahead of all voices, so a Live of no voice is turned first.
        model = Live(self._patch)
        model.turn(name, setting, number, over=over)
        model.turn(name, setting, number)
        self._patch = model.patch()
        for voice in self._begun():
            voice.live.turn(name, setting, number, over=over)

    def put_cord(self, start, goal, port):
        """Puts a cord into all voices, and into those that begin later."""
        self._patch = self._patch.with_cord((start, goal, port))
        for voice in self._begun():
            voice.live.put_cord(start, goal, port)

    def take_cord(self, goal, port):
        """Takes a cord out of all voices, and out of those that begin later."""
        self._patch = self._patch.without_cord(goal, port)
        for voice in self._begun():
            voice.live.take_cord(goal, port)

    def patch(self):
        """The Patch by which voices begin."""
        return self._patch

    def how_many(self):
        """How many voices it has."""
        return len(self._voices)

    def is_pedal_down(self):
        """Whether the pedal is down."""
        return self._down

    def time(self):
        """How many samples it did."""
        return self._time

    def voices(self):
        """Of each voice its key and what has become of it."""
        return [(voice.key, voice.word) for voice in self._voices]

    def foldings(self):
        """Of each part of a voice that folded the voice, the part and the first sample at which it did."""
        names = [name for name, _ in self._patch.parts()]
        rows = sorted([(sample, at, names.index(name)) for at, voice in enumerate(self._voices)
                       for name, sample in voice.foldings()])
        return [(at, names[place], sample) for sample, at, place in rows]

    def stolen(self):
        """Of each voice that was stolen the next sample of then, the voice, and the key that it had."""
        return list(self._stolen)

    def was_clipped(self):
        """The outs whose sums left the width at the last sample."""
        return list(self._too_loud)

    def stands(self):
        """All that decides what comes."""
        patch = (tuple(self._patch.parts()), tuple(sorted(self._patch.cords())), tuple(self._patch.outs()))
        orders = tuple([tuple(self._in_order(word)) for word in WORDS])
        return (patch, self._down, tuple([voice.stands() for voice in self._voices]), orders)

    def lives(self):
        """The very Lives of the voices, None of those that never sounded."""
        return [voice.live for voice in self._voices]

    def twin(self):
        """Another Choir that tells all that this one tells, and goes its own way."""
        other = Choir(self._patch, len(self._voices))
        other._voices = [voice.twin() for voice in self._voices]
        other._down = self._down
        other._time = self._time
        other._deeds = self._deeds
        other._stolen = list(self._stolen)
        other._too_loud = list(self._too_loud)
        return other

    def __eq__(self, other):
        return isinstance(other, Choir) and self.stands() == other.stands()
