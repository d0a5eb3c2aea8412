"""What is handed in to machines: worths by the names of ins, for one sample or for many."""

from cordsounds.numbers import is_name, is_worth


def are_ins(thing):
    """Whether it is a dict from names to worths."""
    if not isinstance(thing, dict):
        return False
    return all([is_name(name) and is_worth(worth) for name, worth in thing.items()])


def are_rows(thing):
    """Whether it is a dict from names to lists of worths."""
    if not isinstance(thing, dict):
        return False
    return all([is_name(name) and _is_row(row) for name, row in thing.items()])


def _is_row(thing):
    return isinstance(thing, (list, tuple)) and all([is_worth(worth) for worth in thing])


def cut(row, begin, many):
    """So many worths of a row from a place on, 0 behind its end."""
    found = list(row[begin:begin + many])
    return found + [0] * (many - len(found))
