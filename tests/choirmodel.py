"""What Choirs, Songs and Sounders are held against; it knows nothing of the package.

A Choir's voices stand in three lists, one for each word, in the order in which they came to it.
"""

import copy

from livemodel import LiveModel, setting_of, with_setting
from model import fold


class ChoirModel:
    def __init__(self, lists, many):
        parts, cords, outs = lists
        self.parts, self.cords, self.outs = dict(parts), list(cords), list(outs)
        self.many, self.pedal_down, self.time = many, False, 0
        self.keys = {}
        self.forces = {}
        self.lives = {}
        self.begun = {}
        self.words = {"down": [], "held": [], "free": []}
        self.stolen, self.folded, self.clipped = [], {}, []

    def copy(self):
        return copy.deepcopy(self)

    def word(self, voice):
        return [word for word, row in self.words.items() if voice in row][0]

    def come(self, voice, word):
        for row in self.words.values():
            if voice in row:
                row.remove(voice)
        self.words[word].append(voice)

    def press(self, key, force=1024):
        own = [voice for voice in self.keys if self.keys[voice] == key]
        new = [voice for voice in range(self.many) if voice not in self.keys]
        old = self.words["free"] + self.words["held"] + self.words["down"]
        voice = (own + new + old)[0]
        if not own and not new and self.word(voice) != "free":
            self.stolen.append((self.time, voice, self.keys[voice]))
        self.keys[voice], self.forces[voice], self.begun[voice] = key, force, self.time
        self.lives[voice] = LiveModel(list(self.parts.items()), self.cords, self.outs)
        self.come(voice, "down")
        return voice

    def let_go(self, key):
        for voice in list(self.words["down"]):
            if self.keys[voice] == key:
                self.come(voice, "held" if self.pedal_down else "free")
                return voice
        return None

    def pedal(self, down):
        self.pedal_down = down
        if not down:
            for voice in sorted(self.words["held"]):
                self.come(voice, "free")

    def turn(self, name, setting, number, over=0):
        self.parts[name] = with_setting(self.parts[name], setting, number)
        for live in self.lives.values():
            live.turn(name, setting, number, over)

    def put_cord(self, start, goal, port):
        self.cords.append((start, goal, port))
        for live in self.lives.values():
            live.model.cords[(goal, port)] = start

    def take_cord(self, goal, port):
        self.cords = [cord for cord in self.cords if cord[1:] != (goal, port)]
        for live in self.lives.values():
            del live.model.cords[(goal, port)]

    def sample(self):
        sums = {name: 0 for name, _ in self.outs}
        for voice, live in self.lives.items():
            gate = 0 if self.word(voice) == "free" else 1
            told = live.sample({"gate": gate, "pitch": 16 * self.keys[voice] - 1024, "force": self.forces[voice]})
            for name in told:
                sums[name] += told[name]
            for name, sample in live.model.folded.items():
                self.folded.setdefault((voice, name), self.begun[voice] + sample)
        self.time += 1
        told = {name: fold(total, "clip") for name, total in sums.items()}
        self.clipped = [name for name in sums if told[name] != sums[name]]
        return told

    def voices(self):
        return [(self.keys[voice], self.word(voice)) if voice in self.keys else (None, "free")
                for voice in range(self.many)]

    def foldings(self):
        names = list(self.parts)
        rows = sorted((sample, voice, names.index(name)) for (voice, name), sample in self.folded.items())
        return [(voice, names[at], sample) for sample, voice, at in rows]


class SongModel:
    """A song, gone over tick by tick."""

    def __init__(self, patterns, row, tempos):
        self.steps = [step for name in row for step in patterns[name]]
        self.tempos = tempos
        self.sums = [0]

    def sample_of(self, tick):
        while len(self.sums) <= tick:
            now = [samples for begin, samples in self.tempos if begin < len(self.sums)][-1]
            self.sums.append(self.sums[-1] + now)
        return self.sums[tick] // 48

    def notes(self):
        found = []
        for at, (ticks, key, force) in enumerate(self.steps):
            begins = sum(step[0] for step in self.steps[:at])
            if key is not None:
                found.append((self.sample_of(begins), self.sample_of(begins + ticks), key, force))
        return found

    def deeds(self):
        notes = [note for note in self.notes() if note[0] != note[1]]
        found = []
        for sample in range(max([note[1] for note in notes], default=0) + 1):
            found.extend((sample, "up", note[2], None) for note in notes if note[1] == sample)
            found.extend((sample, "down", note[2], note[3]) for note in notes if note[0] == sample)
        return found


class SounderModel:
    def __init__(self, lists, many, song=None):
        self.choir = ChoirModel(lists, many)
        self.deeds = SongModel(*song).deeds() if song is not None else []
        self.time, self.log, self.stands, self.clipped = 0, [], {}, {}
        self.rows = {name: [] for name, _ in lists[2]}

    def samples(self, many):
        told = {name: [] for name in self.rows}
        for _ in range(many):
            for sample, word, key, force in self.deeds:
                if sample == self.time and word == "up":
                    self.choir.let_go(key)
                elif sample == self.time:
                    self.choir.press(key, force)
            for name, worth in self.choir.sample().items():
                told[name].append(worth)
                self.rows[name].append(worth)
            for name in self.choir.clipped:
                self.clipped.setdefault(name, self.time)
            self.time += 1
        return told

    def do(self, word, *things):
        self.log.append((self.time, word) + things)
        if word == "save":
            self.stands[things[0]] = self.choir.copy()
            return None
        if word == "put_back":
            self.choir = self.stands[things[0]].copy()
            return None
        if word == "lead":
            self.lead(*things)
            return None
        return getattr(self.choir, word)(*things)

    def lead(self, name, over):
        goal = self.stands[name].parts
        for part in self.choir.parts:
            for setting in settings(goal[part]):
                number = setting_of(goal[part], setting)
                if number != setting_of(self.choir.parts[part], setting):
                    self.choir.turn(part, setting, number, over)

    def cords_alike(self, name):
        return sorted(self.stands[name].cords) == sorted(self.choir.cords)


def settings(part):
    """The names of the settings of a part that may be turned."""
    if part[0] in ("taps", "mix"):
        return [f"x{at}" for at in range(len(part[1]))]
    return {"wave": ["step"], "slow": ["step"], "follow": ["step"],
            "shape": ["up", "down", "stay", "away"]}.get(part[0], [])
