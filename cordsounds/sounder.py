"""The Sounder: a Choir that is played by hand and by a Song, recorded, and led or put back to saved stands."""

from cordsounds.choir import Choir, check_choir
from cordsounds.deeds import do, has_form
from cordsounds.errors import Barred, Missing, NoList, NoName, NoNumber, NoRow, NoSong
from cordsounds.errors import NoStand, NotThere, Over, SoundError
from cordsounds.live import MOST_OVER
from cordsounds.numbers import is_name, is_whole
from cordsounds.parts import settings_of
from cordsounds.patch import is_list
from cordsounds.songs import Song

MOST_SAMPLES = 600


def _check_song(song):
    if song is not None and not isinstance(song, Song):
        raise NoSong(song)


def _by_samples(song):
    """What a Song does, by the samples at which it does it."""
    found = {}
    if song is not None:
        for sample, word, key, force in song.deeds():
            found.setdefault(sample, []).append((word, key, force))
    return found


def _turns_to(patch, goal):
    """The turns that bring each setting of a Patch to what it is in the other."""
    found = []
    for name, part in patch.parts():
        wanted = settings_of(goal.part(name))
        for setting, number in settings_of(part).items():
            if wanted[setting] != number:
                found.append((name, setting, wanted[setting]))
    return found


class Sounder:
    """A Choir with a log of what is done to it, and what it told recorded."""

    def __init__(self, patch, many, *, song=None):
        self._choir = Choir(patch, many)
        _check_song(song)
        self._song = song
        self._song_deeds = _by_samples(song)
        self._time = 0
        self._rows = {name: [] for name, _ in patch.outs()}
        self._first_clipped = {}
        self._log = []
        self._saved = {}

    def samples(self, many):
        """Does so many samples, and tells of each out what it tells."""
        if not is_whole(many, 1, MOST_SAMPLES):
            raise NoNumber(many)
        if self._time + many > MOST_SAMPLES:
            raise Over(self._time)
        begin = self._time
        for _ in range(many):
            self._sample()
        return {name: row[begin:] for name, row in self._rows.items()}

    def _sample(self):
        for word, key, force in self._song_deeds.get(self._time, []):
            if word == "up":
                self._choir.let_go(key)
            else:
                self._choir.press(key, force)
        for name, worth in self._choir.sample().items():
            self._rows[name].append(worth)
        for name in self._choir.was_clipped():
            self._first_clipped.setdefault(name, self._time)
        self._time += 1

    def _write(self, word, things):
        """Writes a deed that was done into the log."""
        self._log.append((self._time, word) + things)

    def press(self, key, force=1024):
        """Presses a key, and tells the voice that gets it."""
        voice = self._choir.press(key, force)
        self._write("press", (key, force))
        return voice

    def let_go(self, key):
        """Lets go of a key, and tells its voice, None where the key isn't down."""
        voice = self._choir.let_go(key)
        self._write("let_go", (key,))
        return voice

    def pedal(self, down):
        """Brings the pedal down or up."""
        self._choir.pedal(down)
        self._write("pedal", (down,))

    def turn(self, name, setting, number, *, over=0):
        """Turns a setting, at once or over so many samples."""
        self._choir.turn(name, setting, number, over=over)
        self._write("turn", (name, setting, number, over))

    def put_cord(self, start, goal, port):
        """Puts a cord in."""
        self._choir.put_cord(start, goal, port)
        self._write("put_cord", (start, goal, port))

    def take_cord(self, goal, port):
        """Takes a cord out."""
        self._choir.take_cord(goal, port)
        self._write("take_cord", (goal, port))

    def save(self, name):
        """Saves a stand by a name, in the place of an elder one of this name."""
        if not is_name(name):
            raise NoName(name)
        self._saved[name] = self._choir.twin()
        self._write("save", (name,))

    def _stand(self, name):
        # What is no text might not be looked up in a dict at all.
        if not isinstance(name, str) or name not in self._saved:
            raise NotThere(name)
        return self._saved[name]

    def lead(self, name, *, over=0):
        """Turns all settings to those of a stand, at once or over so many samples."""
        goal = self._stand(name).patch()
        if not is_whole(over, 0, MOST_OVER):
            raise NoNumber(over)
        patch = self._choir.patch()
        # A Choir's parts never change but by their settings, so its cords alone may be others.
        if sorted(patch.cords()) != sorted(goal.cords()):
            raise NoStand(name)
        for part, setting, number in _turns_to(patch, goal):
            self._choir.turn(part, setting, number, over=over)
        self._write("lead", (name, over))

    def put_back(self, name):
        """Takes the Choir of a stand in its own's place; the stand may be put back to again."""
        self._choir = self._stand(name).twin()
        self._write("put_back", (name,))

    def stands(self):
        """The stands' names, in the order in which they were first saved."""
        return list(self._saved)

    def recorded(self):
        """Of each out all that it told so far."""
        return {name: list(row) for name, row in self._rows.items()}

    def clipped(self):
        """Of each out whose sum left the width the first sample at which it did."""
        return {name: self._first_clipped[name] for name in self._rows if name in self._first_clipped}

    def log(self):
        """All deeds, each with the sample at which it holds."""
        return list(self._log)

    def choir(self):
        """A twin of its Choir."""
        return self._choir.twin()

    def song(self):
        """Its Song, None without one."""
        return self._song

    def time(self):
        """How many samples it did."""
        return self._time

    def twin(self):
        """Another Sounder that tells all that this one tells, and goes its own way."""
        other = Sounder(self._choir.patch(), self._choir.how_many(), song=self._song)
        other._choir = self._choir.twin()
        other._time = self._time
        other._rows = self.recorded()
        other._first_clipped = dict(self._first_clipped)
        other._log = list(self._log)
        # A stand itself never changes, so both may have the same ones.
        other._saved = dict(self._saved)
        return other


def _sound_till(sounder, sample):
    if sample > sounder.time():
        sounder.samples(sample - sounder.time())


def replayed(patch, many, log, samples, *, song=None):
    """A new Sounder to which the deeds of a log are done, and that did so many samples."""
    check_choir(patch, many)
    if not is_list(log):
        raise NoList(log)
    if not is_whole(samples, 0, MOST_SAMPLES):
        raise NoNumber(samples)
    sounder = Sounder(patch, many, song=song)
    for at, row in enumerate(log):
        if not has_form(row) or not is_whole(row[0], sounder.time(), samples):
            raise NoRow(at)
        _sound_till(sounder, row[0])
        try:
            do(sounder, row[1], row[2:])
        except (SoundError, Missing, Barred):
            raise NoRow(at) from None
    _sound_till(sounder, samples)
    return sounder
