"""Smaller Patches that sound alike, and what shows of two Patches that they don't."""

from cordsounds.errors import NoNumber, NoOut, NoPatch, TooMany
from cordsounds.ins import are_rows
from cordsounds.numbers import GREATEST, LEAST, is_whole
from cordsounds.parts import ports_of
from cordsounds.patch import Patch
from cordsounds.plain import MOST_SAMPLES, run

MOST_LENGTH = 4
MOST_WORTHS = 6


def _check(patch):
    if not isinstance(patch, Patch):
        raise NoPatch(patch)


def _starts(patch, name):
    """Where the cords into a part's ports begin, None of a port without one."""
    return [patch.start(name, port) for port in ports_of(patch.part(name))]


def _names(patch):
    return [name for name, _ in patch.parts()]


def unheard(patch):
    """The parts that no out hears, in their order."""
    _check(patch)
    heard = [part for _, part in patch.outs()]
    # The list grows while it is gone over by its places.
    at = 0
    while at < len(heard):
        heard.extend([start for start in _starts(patch, heard[at]) if start is not None and start not in heard])
        at += 1
    return [name for name in _names(patch) if name not in heard]


def steady(patch):
    """The parts that tell 0 at all samples, as far as it follows from ports that get nothing else."""
    _check(patch)
    found = []
    more = _names(patch)
    while more:
        more = [name for name in _names(patch) if name not in found and _is_steady(patch, name, found)]
        found.extend(more)
    return [name for name in _names(patch) if name in found]


def _is_steady(patch, name, found):
    """Whether a part is steady where those that were found so far are."""
    part = patch.part(name)
    idle = [start is None or start in found for start in _starts(patch, name)]
    if part[0] == "taps":
        return idle[0] or all([factor == 0 for factor in part[1]])
    if part[0] == "mix":
        return all([factor == 0 or still for factor, still in zip(part[1], idle)])
    return part[0] in ("delay", "follow", "shape", "times") and any(idle)


def smaller(patch):
    """A Patch that sounds alike, with no part that isn't needed for it by what can be told of it."""
    _check(patch)
    elder = patch
    found = _smaller_once(patch)
    while found != elder:
        elder = found
        found = _smaller_once(found)
    return found


def _smaller_once(patch):
    return _without_steady_cords(_without_alike(_without_unheard(patch)))


def _without_unheard(patch):
    left_out = unheard(patch)
    parts = [(name, part) for name, part in patch.parts() if name not in left_out]
    # What leads out of an unheard part may still lead into another one alone.
    cords = [cord for cord in patch.cords() if cord[1] not in left_out]
    return Patch(parts, cords, patch.outs())


def _without_alike(patch):
    found = patch
    pair = _first_alike(found)
    while pair is not None:
        found = _joined(found, pair[0], pair[1])
        pair = _first_alike(found)
    return found


def _first_alike(patch):
    """Of the first two alike parts the names, that of the one ahead first; None where there are none."""
    forms = [(part, _starts(patch, name)) for name, part in patch.parts()]
    for at, form in enumerate(forms):
        if form in forms[:at]:
            return (patch.parts()[forms.index(form)][0], patch.parts()[at][0])
    return None


def _joined(patch, ahead, later):
    """The Patch without the later of two alike parts; what heard it hears the one ahead."""
    parts = [(name, part) for name, part in patch.parts() if name != later]
    cords = [(ahead if start == later else start, goal, port) for start, goal, port in patch.cords() if goal != later]
    outs = [(name, ahead if part == later else part) for name, part in patch.outs()]
    return Patch(parts, cords, outs)


def _without_steady_cords(patch):
    still = steady(patch)
    return Patch(patch.parts(), [cord for cord in patch.cords() if cord[0] not in still], patch.outs())


def _check_two(one, other):
    _check(one)
    _check(other)
    if sorted([name for name, _ in one.outs()]) != sorted([name for name, _ in other.outs()]):
        raise NoOut(other)


def _rows_of_worths(many):
    """All rows of so many of the worths that are tried, as Python compares them."""
    rows = [[]]
    for _ in range(many):
        rows = [row + [worth] for row in rows for worth in (LEAST, 0, GREATEST)]
    return rows


def _first_unlike(one, other, ins, length):
    """The first sample at which some out of two Patches is unlike for these ins, None where there is none."""
    told, told_by_other = run(one, ins, length), run(other, ins, length)
    for at in range(length):
        if any([row[at] != told_by_other[name][at] for name, row in told.items()]):
            return at
    return None


def parted(one, other, length):
    """The first ins of so many samples by which two Patches part, and the sample; None where none do."""
    _check_two(one, other)
    if not is_whole(length, 1, MOST_LENGTH):
        raise NoNumber(length)
    names = _all_ins(one, other)
    many = len(names) * length
    if many > MOST_WORTHS:
        raise TooMany(many)
    for row in _rows_of_worths(many):
        ins = {name: row[at * length:(at + 1) * length] for at, name in enumerate(names)}
        sample = _first_unlike(one, other, ins, length)
        if sample is not None:
            return (ins, sample)
    return None


def _all_ins(one, other):
    """The names of the ins of both, each once, sorted."""
    return sorted(set(one.ins() + other.ins()))


def shows_parted(one, other, thing):
    """Whether it is a tuple of ins and a sample, at which some out of two Patches is unlike for these ins."""
    _check_two(one, other)
    if not isinstance(thing, tuple) or len(thing) != 2:
        return False
    ins, sample = thing
    if not are_rows(ins) or not is_whole(sample, 0, MOST_SAMPLES - 1):
        return False
    told, told_by_other = run(one, ins, sample + 1), run(other, ins, sample + 1)
    return any([row[sample] != told_by_other[name][sample] for name, row in told.items()])
