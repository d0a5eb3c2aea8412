"""The Desk: it is told lines, and does by them all that the program can."""

from cordsounds.answers import DONE, needs_sounder, of_patch, of_sounder
from cordsounds.errors import NoLine, NoName, NotThere, Over
from cordsounds.lines import read_line
from cordsounds.numbers import is_name
from cordsounds.patch import is_list
from cordsounds.sounder import Sounder
from cordsounds.texts import read_patch, read_song

MOST_LINES = 40


def _rows(text):
    """The text whose rows stand between line feeds."""
    return "\n".join(text.split(" / "))


def _kept(kept, name):
    if name not in kept:
        raise NotThere(name)
    return kept[name]


class Desk:
    """Patches and Songs by names, and a Sounder, once there is one."""

    def __init__(self):
        self._patches = {}
        self._songs = {}
        self._sounder = None

    def say(self, line):
        """Does what a line asks for, and answers it."""
        word, things = read_line(line)
        if needs_sounder(word):
            if self._sounder is None:
                raise Over(None)
            return of_sounder(self._sounder, word, things)
        if word in ("patch", "song"):
            return self._keep(word, things[0], things[1])
        if word == "open":
            return self._begin(things)
        return of_patch(_kept(self._patches, things[0]), word, things[1:])

    def _keep(self, word, name, text):
        """Reads a Patch or a Song, and keeps it by a name."""
        if not is_name(name):
            raise NoName(name)
        if word == "patch":
            self._patches[name] = read_patch(_rows(text))
        else:
            self._songs[name] = read_song(_rows(text))
        return DONE

    def _begin(self, things):
        """Takes a new Sounder, of a kept Patch and perhaps of a kept Song."""
        patch = _kept(self._patches, things[0])
        song = _kept(self._songs, things[2]) if len(things) > 2 else None
        self._sounder = Sounder(patch, things[1], song=song)
        return DONE

    def say_all(self, lines):
        """Does what lines ask for, one behind the other, and answers them; all of them or none."""
        if not is_list(lines) or len(lines) > MOST_LINES or not all([isinstance(line, str) for line in lines]):
            raise NoLine(lines)
        # They are told to another Desk first, so that this one has nothing to take back.
        other = self._twin()
        answers = []
        for line in lines:
            answers.append(other.say(line))
        self._take(other)
        return answers

    def _twin(self):
        other = Desk()
        other._take(self)
        if self._sounder is not None:
            other._sounder = self._sounder.twin()
        return other

    def _take(self, other):
        """Takes all that another Desk has."""
        self._patches = dict(other._patches)
        self._songs = dict(other._songs)
        self._sounder = other._sounder
