"""The texts of Patches and Songs, written and read row by row."""

from cordsounds.errors import NoPatch, NoRow, NoSong
from cordsounds.keys import is_force, is_key
from cordsounds.numbers import is_name
from cordsounds.parts import is_part
from cordsounds.patch import Patch
from cordsounds.songs import Song, is_tempo_samples, is_ticks
from cordsounds.words import number_of, rows_of

REST = "-"

# Of each kind of part how its settings are written, one by one.
_SETTINGS = {
    "from": ("word",),
    "wave": ("word", "number"),
    "slow": ("word", "number"),
    "noise": ("number",),
    "shape": ("number", "number", "number", "number"),
    "taps": ("factors", "word"),
    "mix": ("factors", "word"),
    "times": ("word",),
    "delay": ("number",),
    "follow": ("number",),
}

# How many names stand in the rows of cords and of outs.
_MANY_NAMES = {"cord": 3, "out": 2}


def patch_text(patch):
    """The text of a Patch: its parts, its cords and its outs, each in their order."""
    if not isinstance(patch, Patch):
        raise NoPatch(patch)
    rows = [["part", name] + [_setting_text(setting) for setting in part] for name, part in patch.parts()]
    rows.extend([["cord", start, goal, port] for start, goal, port in patch.cords()])
    rows.extend([["out", name, part] for name, part in patch.outs()])
    return "\n".join([" ".join(row) for row in rows])


def _setting_text(setting):
    if isinstance(setting, tuple):
        return ",".join([str(factor) for factor in setting])
    return str(setting)


def read_patch(text):
    """The Patch of a text."""
    found = {"part": [], "cord": [], "out": []}
    for at, words in rows_of(text):
        thing = _read_named_part(words) if words[0] == "part" else _read_names(words)
        if thing is None:
            raise NoRow(at)
        found[words[0]].append(thing)
    return Patch(found["part"], found["cord"], found["out"])


def _read_names(words):
    """The cord or the out of a row, None where it is neither."""
    many = _MANY_NAMES.get(words[0])
    names = tuple(words[1:])
    return names if len(names) == many and _are_names(names) else None


def _are_names(words):
    return all([is_name(word) for word in words])


def _read_named_part(words):
    """The name and the part of a row, None where it has none such."""
    if len(words) < 3 or not is_name(words[1]) or words[2] not in _SETTINGS:
        return None
    forms = _SETTINGS[words[2]]
    settings = words[3:]
    if len(settings) != len(forms):
        return None
    part = (words[2],) + tuple([_read_setting(word, form) for word, form in zip(settings, forms)])
    return (words[1], part) if is_part(part) else None


def _read_setting(word, form):
    """A setting as it stands in a part, which is none where it has None for a number."""
    if form == "number":
        return number_of(word)
    if form == "factors":
        return tuple([number_of(factor) for factor in word.split(",")])
    return word


def song_text(song):
    """The text of a Song: its patterns, its row and its tempos."""
    if not isinstance(song, Song):
        raise NoSong(song)
    rows = [["pattern", name] + [_step_text(step) for step in pattern] for name, pattern in song.patterns().items()]
    rows.append(["row"] + song.row())
    rows.extend([["tempo", str(tick), str(samples)] for tick, samples in song.tempos()])
    return "\n".join([" ".join(row) for row in rows])


def _step_text(step):
    ticks, key, force = step
    shown = REST if key is None else key
    return f"{ticks}:{shown}:{force}"


def read_song(text):
    """The Song of a text."""
    patterns = {}
    rows = []
    tempos = []
    for at, words in rows_of(text):
        steps = _read_steps(words)
        tempo = _read_tempo(words)
        if steps is not None and words[1] not in patterns:
            patterns[words[1]] = steps
        elif words[0] == "row" and not rows and _are_names(words[1:]):
            rows.append(words[1:])
        elif tempo is not None:
            tempos.append(tempo)
        else:
            raise NoRow(at)
    return Song(patterns, rows[0] if rows else [], tempos)


def _read_steps(words):
    """The steps of a pattern's row, None where it is none."""
    if words[0] != "pattern" or len(words) < 2 or not is_name(words[1]):
        return None
    steps = [_read_step(word) for word in words[2:]]
    return None if None in steps else steps


def _read_step(word):
    """A step, None where it is none."""
    words = word.split(":")
    if len(words) != 3:
        return None
    ticks, force = number_of(words[0]), number_of(words[2])
    key = None if words[1] == REST else number_of(words[1])
    if not is_ticks(ticks) or not is_force(force) or not (words[1] == REST or is_key(key)):
        return None
    return (ticks, key, force)


def _read_tempo(words):
    """The tempo of a row, None where it is none; its tick may be any from 0 on."""
    if words[0] != "tempo" or len(words) != 3:
        return None
    tick, samples = number_of(words[1]), number_of(words[2])
    if tick is None or tick < 0 or not is_tempo_samples(samples):
        return None
    return (tick, samples)
