"""What a Desk answers to the lines that need a Sounder, and to those about a Patch."""

from cordsounds.bounds import bounds
from cordsounds.deeds import do
from cordsounds.logtexts import samples_text
from cordsounds.smaller import smaller, steady, unheard
from cordsounds.texts import patch_text

DONE = "ok"
NONE = "-"


def _or_none(thing):
    return NONE if thing is None else str(thing)


def _several(rows):
    """Several things, each of one word or more, `-` where there are none."""
    return "; ".join(rows) if rows else NONE


def _words(rows):
    """Several things of words, of each a tuple."""
    return _several([" ".join([_or_none(thing) for thing in row]) for row in rows])


def _press(sounder, key, force):
    return str(sounder.press(key, force))


def _let_go(sounder, key):
    return _or_none(sounder.let_go(key))


def _go(sounder, many):
    rows = samples_text(sounder.samples(many))
    return _several(rows.split("\n"))


def _voices(sounder):
    return _words(sounder.choir().voices())


def _stolen(sounder):
    return _words(sounder.choir().stolen())


def _clipped(sounder):
    return _words(list(sounder.clipped().items()))


def _folded(sounder):
    return _words(sounder.choir().foldings())


def _stands(sounder):
    return _several(sounder.stands())


def _time(sounder):
    return str(sounder.time())


# Lines that are answered by nothing but that they were done, and the deeds that they are.
_DEEDS = {
    "pedal": "pedal",
    "turn": "turn",
    "cord": "put_cord",
    "uncord": "take_cord",
    "save": "save",
    "lead": "lead",
    "back": "put_back",
}

_ANSWERS = {
    "press": _press,
    "letgo": _let_go,
    "go": _go,
    "voices": _voices,
    "stolen": _stolen,
    "clipped": _clipped,
    "folded": _folded,
    "stands": _stands,
    "time": _time,
}


def _unheard(patch):
    return _several(unheard(patch))


def _steady(patch):
    return _several(steady(patch))


def _smaller(patch):
    return " / ".join(patch_text(smaller(patch)).split("\n"))


def _bounds(patch, name):
    return " ".join([str(number) for number in bounds(patch.part(name))])


_OF_PATCH = {"unheard": _unheard, "steady": _steady, "smaller": _smaller, "bounds": _bounds}


def needs_sounder(word):
    """Whether a line that begins so needs a Sounder."""
    return word in _DEEDS or word in _ANSWERS


def of_sounder(sounder, word, things):
    """Does to a Sounder what a line asks for, and tells the answer."""
    if word in _DEEDS:
        do(sounder, _DEEDS[word], things)
        return DONE
    answer = _ANSWERS[word]
    return answer(sounder, *things)


def of_patch(patch, word, things):
    """The answer to a line about a Patch."""
    answer = _OF_PATCH[word]
    return answer(patch, *things)
