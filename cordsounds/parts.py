"""Parts: tuples of a kind and its settings; their ports, and the settings that may be turned."""

from cordsounds.errors import NoNumber, NoPart, NoSetting
from cordsounds.numbers import is_manner, is_name, is_table, is_whole

MIX_PORTS = ("a", "b", "c", "d")
MOST_FACTORS = 8

# Of each kind the settings that may be turned and their places in the part;
# factors are named by their own places instead.
_TURNABLE = {
    "wave": (("step", 2),),
    "slow": (("step", 2),),
    "shape": (("up", 1), ("down", 2), ("stay", 3), ("away", 4)),
    "follow": (("step", 1),),
}

_PORTS = {
    "from": (),
    "wave": ("pitch",),
    "slow": (),
    "noise": (),
    "shape": ("gate",),
    "taps": ("in",),
    "times": ("a", "b"),
    "delay": ("in",),
    "follow": ("in",),
}


def _is_from(part):
    return len(part) == 2 and is_name(part[1])


def _is_wave(part):
    return len(part) == 3 and is_table(part[1]) and is_whole(part[2], 0, 2048)


def _is_noise(part):
    return len(part) == 2 and is_whole(part[1], 0, 4095)


def _is_shape(part):
    if len(part) != 5:
        return False
    _, up, down, stay, away = part
    return is_whole(stay, 0, 2047) and all([is_whole(step, 1, 2047) for step in (up, down, away)])


def _are_factors(thing, most):
    if not isinstance(thing, tuple) or not 1 <= len(thing) <= most:
        return False
    return all([is_whole(factor, -256, 256) for factor in thing])


def _is_taps(part):
    return len(part) == 3 and _are_factors(part[1], MOST_FACTORS) and is_manner(part[2])


def _is_mix(part):
    return len(part) == 3 and _are_factors(part[1], len(MIX_PORTS)) and is_manner(part[2])


def _is_times(part):
    return len(part) == 2 and is_manner(part[1])


def _is_delay(part):
    return len(part) == 2 and is_whole(part[1], 1, 64)


def _is_follow(part):
    return len(part) == 2 and is_whole(part[1], 1, 2047)


_CHECKS = {
    "from": _is_from,
    "wave": _is_wave,
    "slow": _is_wave,
    "noise": _is_noise,
    "shape": _is_shape,
    "taps": _is_taps,
    "mix": _is_mix,
    "times": _is_times,
    "delay": _is_delay,
    "follow": _is_follow,
}


def is_part(thing):
    """Whether it is a part, of any of the ten kinds."""
    if not isinstance(thing, tuple) or len(thing) == 0:
        return False
    kind = thing[0]
    # A kind that is no text might not be looked up in a dict at all.
    if not isinstance(kind, str) or kind not in _CHECKS:
        return False
    check = _CHECKS[kind]
    return check(thing)


def has_factors(part):
    """Whether the settings of a part are factors and a manner."""
    return part[0] in ("taps", "mix")


def ports_of(part):
    """The names of a part's ports, in their order."""
    if not is_part(part):
        raise NoPart(part)
    if part[0] == "mix":
        return MIX_PORTS[:len(part[1])]
    return _PORTS[part[0]]


def settings_of(part):
    """The settings of a part that may be turned, a new dict in their order."""
    if not is_part(part):
        raise NoPart(part)
    if has_factors(part):
        return {f"x{at}": factor for at, factor in enumerate(part[1])}
    return {name: part[at] for name, at in _TURNABLE.get(part[0], ())}


def turned(part, name, number):
    """The part with this one setting of another number."""
    settings = settings_of(part)
    if not isinstance(name, str) or name not in settings:
        raise NoSetting(name)
    other = _with_setting(part, name, number)
    if not is_part(other):
        raise NoNumber(number)
    return other


def _with_setting(part, name, number):
    if has_factors(part):
        at = list(settings_of(part)).index(name)
        return _replaced(part, 1, _replaced(part[1], at, number))
    places = dict(_TURNABLE[part[0]])
    return _replaced(part, places[name], number)


def _replaced(row, at, thing):
    return row[:at] + (thing,) + row[at + 1:]
