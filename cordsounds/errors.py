"""All refusals, in three families; each keeps the very thing that it is made of.

The message is a fixed text, so that a refusal of any thing can be shown.
"""


class SoundError(ValueError):
    """The family of what isn't what is wanted."""


class Missing(KeyError):
    """The family of what isn't there."""


class Barred(LookupError):
    """The family of what can't be now."""


class NoNumber(SoundError):
    """What is no whole number within the bounds told of it."""

    def __init__(self, found):
        SoundError.__init__(self, "no such whole number")
        self.found = found


class NoName(SoundError):
    """What is no name."""

    def __init__(self, found):
        SoundError.__init__(self, "no name")
        self.found = found


class NoWorth(SoundError):
    """What is no worth."""

    def __init__(self, found):
        SoundError.__init__(self, "no worth")
        self.found = found


class NoManner(SoundError):
    """What is no manner of folding."""

    def __init__(self, found):
        SoundError.__init__(self, "no manner")
        self.found = found


class NoTable(SoundError):
    """What is no table's name."""

    def __init__(self, found):
        SoundError.__init__(self, "no table")
        self.found = found


class NoPart(SoundError):
    """What is no part, or no such part."""

    def __init__(self, found):
        SoundError.__init__(self, "no such part")
        self.found = found


class NoCord(SoundError):
    """What is no cord, or no list of cords."""

    def __init__(self, found):
        SoundError.__init__(self, "no cord")
        self.found = found


class NoOut(SoundError):
    """What is no out, or no list of outs."""

    def __init__(self, found):
        SoundError.__init__(self, "no out")
        self.found = found


class NoPatch(SoundError):
    """What is no Patch."""

    def __init__(self, found):
        SoundError.__init__(self, "no Patch")
        self.found = found


class NoIns(SoundError):
    """What are no ins."""

    def __init__(self, found):
        SoundError.__init__(self, "no ins")
        self.found = found


class NoOrder(SoundError):
    """What is no order of a Patch."""

    def __init__(self, found):
        SoundError.__init__(self, "no order")
        self.found = found


class NoKey(SoundError):
    """What is no key."""

    def __init__(self, found):
        SoundError.__init__(self, "no key")
        self.found = found


class NoTruth(SoundError):
    """What is no truth."""

    def __init__(self, found):
        SoundError.__init__(self, "no truth")
        self.found = found


class NoSong(SoundError):
    """What is no Song, or none of what one is made of."""

    def __init__(self, found):
        SoundError.__init__(self, "no song")
        self.found = found


class NoStand(SoundError):
    """A stand's name, to which nothing can be led."""

    def __init__(self, found):
        SoundError.__init__(self, "no such stand")
        self.found = found


class NoDeed(SoundError):
    """What is no deed."""

    def __init__(self, found):
        SoundError.__init__(self, "no deed")
        self.found = found


class NoList(SoundError):
    """What is no such list."""

    def __init__(self, found):
        SoundError.__init__(self, "no such list")
        self.found = found


class NoText(SoundError):
    """What is no text."""

    def __init__(self, found):
        SoundError.__init__(self, "no text")
        self.found = found


class NoRow(SoundError):
    """The number of a row that is none."""

    def __init__(self, at):
        SoundError.__init__(self, "no such row")
        self.at = at


class NoLine(SoundError):
    """What is no line of a desk."""

    def __init__(self, found):
        SoundError.__init__(self, "no line")
        self.found = found


class Twice(SoundError):
    """A name that stands there ahead."""

    def __init__(self, found):
        SoundError.__init__(self, "there already")
        self.found = found


class TooMany(SoundError):
    """How many there are, where that is too many."""

    def __init__(self, many):
        SoundError.__init__(self, "too many")
        self.many = many


class NotThere(Missing):
    """A name that none has."""

    def __init__(self, found):
        Missing.__init__(self, "not there")
        self.found = found


class NoPort(Missing):
    """A goal and a port that it doesn't have."""

    def __init__(self, found):
        Missing.__init__(self, "no such port")
        self.found = found


class NoSetting(Missing):
    """What is no setting of a part."""

    def __init__(self, found):
        Missing.__init__(self, "no such setting")
        self.found = found


class Ring(Barred):
    """A ring of parts without a delay."""

    def __init__(self, found):
        Barred.__init__(self, "a ring without a delay")
        self.found = found


class Taken(Barred):
    """A goal and a port into which a cord leads already."""

    def __init__(self, found):
        Barred.__init__(self, "taken already")
        self.found = found


class Over(Barred):
    """What is over, or hasn't begun."""

    def __init__(self, found):
        Barred.__init__(self, "over")
        self.found = found
