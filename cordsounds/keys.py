"""Keys and forces, as they are handed to Choirs and as they stand in Songs and logs."""

from cordsounds.numbers import is_whole

MOST_KEY = 127
MOST_FORCE = 2047


def is_key(thing):
    """Whether it is a key."""
    return is_whole(thing, 0, MOST_KEY)


def is_force(thing):
    """Whether it is the force with which a key may be pressed."""
    return is_whole(thing, 1, MOST_FORCE)
