"""Deeds: the words of a log, the things that stand behind each of them, and how they are done to a Sounder."""

# Behind each word what its things are, one by one.
THINGS = {
    "press": ("key", "force"),
    "let_go": ("key",),
    "pedal": ("truth",),
    "turn": ("name", "setting", "number", "over"),
    "put_cord": ("name", "name", "name"),
    "take_cord": ("name", "name"),
    "save": ("name",),
    "lead": ("name", "over"),
    "put_back": ("name",),
}


def has_form(thing):
    """Whether it is a tuple of a sample, a word, and as many things as stand behind that, whatever these are."""
    if not isinstance(thing, tuple) or len(thing) < 2:
        return False
    word = thing[1]
    return isinstance(word, str) and word in THINGS and len(thing) == 2 + len(THINGS[word])


def _press(sounder, key, force):
    sounder.press(key, force)


def _let_go(sounder, key):
    sounder.let_go(key)


def _pedal(sounder, down):
    sounder.pedal(down)


def _turn(sounder, name, setting, number, over):
    sounder.turn(name, setting, number, over=over)


def _put_cord(sounder, start, goal, port):
    sounder.put_cord(start, goal, port)


def _take_cord(sounder, goal, port):
    sounder.take_cord(goal, port)


def _save(sounder, name):
    sounder.save(name)


def _lead(sounder, name, over):
    sounder.lead(name, over=over)


def _put_back(sounder, name):
    sounder.put_back(name)


_DEEDS = {
    "press": _press,
    "let_go": _let_go,
    "pedal": _pedal,
    "turn": _turn,
    "put_cord": _put_cord,
    "take_cord": _take_cord,
    "save": _save,
    "lead": _lead,
    "put_back": _put_back,
}


def do(sounder, word, things):
    """Does a deed to a Sounder, refused as that refuses it."""
    deed = _DEEDS[word]
    deed(sounder, *things)
