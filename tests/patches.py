"""Patches by chance, the same ones each time, and what comes into them."""

import random

from cordsounds.parts import ports_of
from cordsounds.patch import Patch

KINDS = ("from", "wave", "slow", "noise", "shape", "taps", "mix", "times", "delay", "follow")
TABLES = ("saw", "square", "tri", "pulse", "hump")
MANNERS = ("clip", "wrap", "fold")
INS = ("left", "right", "knob")
VOICE_INS = ("gate", "pitch", "force", "gate", "knob")
EDGES = [-2048, -2047, -1, 0, 0, 1, 2046, 2047]


def factors(chance, many):
    return tuple(chance.choice([-256, 256, 255, chance.randint(-256, 256), chance.randint(-256, 256)])
                 for _ in range(many))


def random_part(chance, kind):
    """A part of a kind."""
    number, table, manner = chance.randint(1, 2047), chance.choice(TABLES), chance.choice(MANNERS)
    return {
        "from": ("from", chance.choice(INS)),
        "wave": ("wave", table, chance.randint(0, 2048)),
        "slow": ("slow", table, chance.randint(0, 2048)),
        "noise": ("noise", chance.randint(0, 4095)),
        "shape": ("shape", number, chance.randint(1, 2047), chance.randint(0, 2047), chance.randint(1, 800)),
        "taps": ("taps", factors(chance, chance.randint(1, 8)), manner),
        "mix": ("mix", factors(chance, chance.randint(1, 4)), manner),
        "times": ("times", manner),
        "delay": ("delay", chance.choice([1, 2, 3, 5, 17, 63, 64])),
        "follow": ("follow", chance.choice([1, number])),
    }[kind]


def random_names(chance, many):
    found = []
    while len(found) < many:
        name = "".join(chance.choice("abcxyz") for _ in range(chance.randint(1, 8)))
        if name not in found:
            found.append(name)
    return found


def random_lists(chance, many, kinds=KINDS):
    """Parts, cords and outs of a patch of so many parts; its rings all have delays."""
    names = random_names(chance, many)
    parts = {name: random_part(chance, chance.choice(kinds)) for name in names}
    cords = []
    for at, goal in enumerate(names):
        for port in ports_of(parts[goal]):
            late = [name for name in names if parts[name][0] == "delay"]
            starts = names if parts[goal][0] == "delay" else names[:at] + late
            if starts and chance.random() < 0.85:
                cords.append((chance.choice(starts), goal, port))
    outs = [(name, chance.choice(names)) for name in random_names(chance, chance.randint(1, 4))]
    rows = list(parts.items())
    chance.shuffle(rows)
    chance.shuffle(cords)
    return rows, cords, outs


def random_rows(chance, many):
    """Ins for so many samples: some short, some long, some left out, one of no in."""
    rows = {}
    for name in INS + ("other",):
        if chance.random() < 0.85:
            length = min(650, chance.choice([many, many, many // 2, many + 9]))
            rows[name] = [chance.choice(EDGES + [chance.randint(-2048, 2047)] * 6) for _ in range(length)]
    return rows


def at(rows, sample):
    """The ins of one sample of rows, those left out that have ended."""
    return {name: row[sample] for name, row in rows.items() if sample < len(row)}


def random_patches(seed, many):
    """So many tuples of a chance, and the lists of a patch of one to twelve parts."""
    for at in range(many):
        chance = random.Random(seed * 1000 + at)
        yield chance, random_lists(chance, 1 + at % 12)


def of_voices(chance, lists):
    """The lists of a patch, its ins those of a Choir's voices and one of another name."""
    parts, cords, outs = lists
    named = [(name, ("from", chance.choice(VOICE_INS)) if part[0] == "from" else part) for name, part in parts]
    return named, cords, outs


def random_order(chance, patch):
    """Any order of a Patch that is one."""
    left = [name for name, _ in patch.parts()]
    found = []
    while left:
        ready = [name for name in left if is_ready(patch, name, found)]
        found.append(chance.choice(ready))
        left.remove(found[-1])
    return found


def is_ready(patch, name, found):
    if patch.part(name)[0] == "delay":
        return True
    starts = [patch.start(name, port) for port in ports_of(patch.part(name))]
    return all(start is None or start in found or patch.part(start)[0] == "delay" for start in starts)


# A little voice with a ring through a delay, whose parts stand in the list ahead of what leads to them.
VOICE = (
    [("echo", ("delay", 3)), ("sum", ("mix", (256, 128), "clip")), ("tone", ("wave", "saw", 64)),
     ("gain", ("shape", 1000, 500, 300, 200)), ("loud", ("times", "wrap")), ("key", ("from", "gate"))],
    [("sum", "echo", "in"), ("loud", "sum", "a"), ("echo", "sum", "b"), ("tone", "loud", "a"),
     ("gain", "loud", "b"), ("key", "gain", "gate")],
    [("main", "sum"), ("dry", "loud")],
)


def voice():
    return Patch(*VOICE)


# A part that folds at once where its in is loud, and one that doesn't, behind it.
LOUD = (
    [("far", ("taps", (256, 256), "clip")), ("near", ("mix", (256, 256), "fold")), ("ear", ("from", "left"))],
    [("ear", "near", "a"), ("ear", "near", "b"), ("ear", "far", "in")],
    [("one", "near"), ("two", "far")],
)


def loud():
    return Patch(*LOUD)


def lists_of(patch):
    """All that a Patch is made of."""
    return patch.parts(), patch.cords(), patch.outs()


# Its outs tell what comes into a voice.
BARE = ([("g", ("from", "gate")), ("p", ("from", "pitch")), ("f", ("from", "force")), ("k", ("from", "knob"))],
        [], [("gate", "g"), ("pitch", "p"), ("force", "f"), ("knob", "k")])
# A tone of a key, with a shape that goes on sounding when the key is let go of, and a mix that folds when loud.
TONE = (
    [("pit", ("from", "pitch")), ("gat", ("from", "gate")), ("forc", ("from", "force")),
     ("osc", ("wave", "tri", 100)), ("env", ("shape", 700, 90, 900, 60)), ("amp", ("times", "clip")),
     ("mixed", ("mix", (200, 256, 16), "clip")), ("late", ("delay", 5))],
    [("pit", "osc", "pitch"), ("gat", "env", "gate"), ("osc", "amp", "a"), ("env", "amp", "b"),
     ("amp", "mixed", "a"), ("late", "mixed", "b"), ("forc", "mixed", "c"), ("mixed", "late", "in")],
    [("left", "mixed"), ("right", "late")],
)
