"""Whole numbers, names, manners of folding, tables and noise."""

from cordsounds.errors import NoManner, NoNumber, NoTable

LEAST = -2048
GREATEST = 2047
WIDTH = 4096
NAME_LENGTH = 8
PLACES = 64
MANNERS = ("clip", "wrap", "fold")
TABLES = ("saw", "square", "tri", "pulse", "hump")


def is_number(thing):
    """Whether it is a whole number, of whatever size."""
    return isinstance(thing, int) and not isinstance(thing, bool)


def is_whole(thing, low, high):
    """Whether it is a whole number from low to high, both counted."""
    return is_number(thing) and low <= thing <= high


def is_name(thing):
    """Whether it is a text of one to eight small letters."""
    if not isinstance(thing, str) or not 1 <= len(thing) <= NAME_LENGTH:
        return False
    return all(["a" <= sign <= "z" for sign in thing])


def is_worth(thing):
    """Whether it is a worth."""
    return is_whole(thing, LEAST, GREATEST)


def is_manner(thing):
    """Whether it is a manner of folding."""
    return isinstance(thing, str) and thing in MANNERS


def is_table(thing):
    """Whether it is a table's name."""
    return isinstance(thing, str) and thing in TABLES


def folded(number, manner):
    """The worth to which a whole number of any size is brought by a manner."""
    if not is_number(number):
        raise NoNumber(number)
    if not is_manner(manner):
        raise NoManner(manner)
    if manner == "clip":
        return max(LEAST, min(GREATEST, number))
    if manner == "wrap":
        return (number - LEAST) % WIDTH + LEAST
    return _turned_back(number)


def _turned_back(number):
    # Up and down again is a way of twice the width; its second half runs backward.
    way = (number - LEAST) % (2 * WIDTH)
    if way < WIDTH:
        return way + LEAST
    return 2 * WIDTH - 1 - way + LEAST


def is_folded(number, manner):
    """Whether folding changes the number."""
    return folded(number, manner) != number


def table_worth(table, place):
    """The worth of a table at a place from 0 to 63."""
    if not is_table(table):
        raise NoTable(table)
    if not is_whole(place, 0, PLACES - 1):
        raise NoNumber(place)
    tell = _TABLE_WORTHS[table]
    return tell(place)


def _saw(place):
    return 64 * place - 2048


def _square(place):
    return GREATEST if place < 32 else LEAST


def _tri(place):
    if place < 32:
        return 128 * place - 2048
    return 2047 - 128 * (place - 32)


def _pulse(place):
    return GREATEST if place < 8 else LEAST


def _hump(place):
    if place < 32:
        return min(2047, 8 * place * (32 - place))
    return 0 - 8 * (place - 32) * (64 - place)


_TABLE_WORTHS = {"saw": _saw, "square": _square, "tri": _tri, "pulse": _pulse, "hump": _hump}


def next_noise(state):
    """The state of a noise that comes behind this one."""
    if not is_whole(state, 0, WIDTH - 1):
        raise NoNumber(state)
    return (1229 * state + 351) % WIDTH
