"""The lines of a Desk: what words they are made of."""

from cordsounds.errors import NoLine
from cordsounds.words import number_of, truth_of

# Behind the first word, what may stand there: one form, or two of unlike lengths.
# A number is read, a truth is `yes` or `no`, a text is all that is left; else it is any word.
FORMS = {
    "patch": (("name", "text"),),
    "song": (("name", "text"),),
    "open": (("word", "number"), ("word", "number", "word")),
    "press": (("number", "number"),),
    "letgo": (("number",),),
    "pedal": (("truth",),),
    "turn": (("word", "word", "number", "number"),),
    "cord": (("word", "word", "word"),),
    "uncord": (("word", "word"),),
    "save": (("word",),),
    "lead": (("word", "number"),),
    "back": (("word",),),
    "go": (("number",),),
    "voices": ((),),
    "stolen": ((),),
    "clipped": ((),),
    "folded": ((),),
    "stands": ((),),
    "time": ((),),
    "unheard": (("word",),),
    "steady": (("word",),),
    "smaller": (("word",),),
    "bounds": (("word", "word"),),
}


def read_line(line):
    """The first word of a line, and a list of what stands behind it."""
    if not isinstance(line, str) or "\n" in line:
        raise NoLine(line)
    words = line.split(" ")
    if "" in words or words[0] not in FORMS:
        raise NoLine(line)
    for form in FORMS[words[0]]:
        things = _read_things(words[1:], form)
        if things is not None:
            return (words[0], things)
    raise NoLine(line)


def _read_things(words, form):
    """What the words behind the first one are, None where they aren't of this form."""
    rest = words
    if form and form[-1] == "text" and len(words) > len(form):
        rest = words[:len(form) - 1] + [" ".join(words[len(form) - 1:])]
    if len(rest) != len(form):
        return None
    things = [_read_thing(word, kind) for word, kind in zip(rest, form)]
    return None if None in things else things


def _read_thing(word, kind):
    """What a word is, None where it is nothing of this kind."""
    if kind == "number":
        return number_of(word)
    if kind == "truth":
        return truth_of(word)
    return word
