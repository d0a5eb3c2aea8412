"""Voices: what a Choir keeps of each, its key, the word of it, and the Live that sounds.

A voice's rank is the number of the deed by which it came to its word: of two voices
of one word, the one of the lesser rank came to it first.
"""

from cordsounds.live import Live

DOWN = "down"
HELD = "held"
FREE = "free"
WORDS = ("down", "held", "free")


class Voice:
    """A voice, without a key and without a Live till it begins."""

    def __init__(self):
        self.key = None
        self.force = None
        self.word = FREE
        self.rank = 0
        self.live = None
        self._began = 0
        self._folded = {}

    def begin(self, patch, key, force, rank, sample):
        """Gets a key, and sounds anew from this sample of the Choir on."""
        # The Live that is let go knows alone what folded so far.
        self._folded = dict(self.foldings())
        self.key = key
        self.force = force
        self.live = Live(patch)
        self._began = sample
        self.come(DOWN, rank)

    def come(self, word, rank):
        """Comes to a word, by the deed of this number."""
        self.word = word
        self.rank = rank

    def comes_in(self):
        """What comes into its Live at this sample."""
        gate = 0 if self.word == FREE else 1
        return {"gate": gate, "pitch": 16 * self.key - 1024, "force": self.force}

    def foldings(self):
        """Of each part that folded its name and the first sample of the Choir at which it did, whatever the key."""
        found = dict(self._folded)
        if self.live is not None:
            for name, sample in self.live.foldings():
                found.setdefault(name, self._began + sample)
        return list(found.items())

    def stands(self):
        """All that decides what it will sound like."""
        live = None if self.live is None else self.live.stands()
        return (self.key, self.word, self.force, live)

    def twin(self):
        """Another voice of all that this one has, which goes its own way."""
        other = Voice()
        other.key = self.key
        other.force = self.force
        other.live = None if self.live is None else self.live.twin()
        other.come(self.word, self.rank)
        other._began = self._began
        other._folded = dict(self._folded)
        return other
