"""The texts of logs, and of rows of samples, written and read row by row."""

from cordsounds.deeds import THINGS, has_form
from cordsounds.errors import NoList, NoRow
from cordsounds.numbers import is_name, is_whole, is_worth
from cordsounds.patch import is_list
from cordsounds.words import number_of, rows_of, truth_of

MOST_SAMPLES = 600
MOST_NAMES = 4

# From where to where the numbers of a log go.
_BOUNDS = {"sample": (0, 600), "key": (0, 127), "force": (1, 2047), "number": (-256, 2048), "over": (0, 400)}
_FACTORS = ("x0", "x1", "x2", "x3", "x4", "x5", "x6", "x7")


def log_text(log):
    """The text of a log, a row for each deed."""
    if not is_list(log) or not all([_is_row(row) for row in log]):
        raise NoList(log)
    return "\n".join([" ".join([_thing_text(thing) for thing in row]) for row in log])


def _is_row(thing):
    """Whether it is a row of a log."""
    if not has_form(thing) or not _fits(thing[0], "sample"):
        return False
    return all([_fits(found, form) for found, form in zip(thing[2:], THINGS[thing[1]])])


def _fits(thing, form):
    """Whether a thing may stand where one of this form is wanted."""
    if form == "truth":
        return isinstance(thing, bool)
    if form == "name":
        return is_name(thing)
    if form == "setting":
        return is_name(thing) or (isinstance(thing, str) and thing in _FACTORS)
    low, high = _BOUNDS[form]
    return is_whole(thing, low, high)


def _thing_text(thing):
    if isinstance(thing, bool):
        return "yes" if thing else "no"
    return str(thing)


def read_log(text):
    """The log of a text."""
    found = []
    for at, words in rows_of(text):
        row = _read_row(words)
        if not _is_row(row):
            raise NoRow(at)
        found.append(row)
    return found


def _read_row(words):
    """What would be a row of a log, if all that is in it fits."""
    if len(words) < 2 or words[1] not in THINGS:
        return ()
    forms = ("sample", "word") + THINGS[words[1]]
    if len(words) != len(forms):
        return ()
    return tuple([_read_thing(word, form) for word, form in zip(words, forms)])


def _read_thing(word, form):
    if form == "truth":
        return truth_of(word)
    if form in _BOUNDS:
        return number_of(word)
    return word


def _are_rows(thing):
    """Whether it is a dict from names to lists of worths, all of one length."""
    if not isinstance(thing, dict) or not 1 <= len(thing) <= MOST_NAMES:
        return False
    if not all([is_name(name) and _is_samples(row) for name, row in thing.items()]):
        return False
    lengths = [len(row) for row in list(thing.values())]
    return min(lengths) == max(lengths)


def _is_samples(thing):
    return is_list(thing) and len(thing) <= MOST_SAMPLES and all([is_worth(worth) for worth in thing])


def samples_text(rows):
    """The text of rows of samples, a row for each name."""
    if not _are_rows(rows):
        raise NoList(rows)
    return "\n".join([" ".join([name] + _run_texts(row)) for name, row in rows.items()])


def _run_texts(row):
    """Of each run of equal worths, as long as may be, what is written."""
    runs = []
    for worth in row:
        if runs and runs[-1][0] == worth:
            runs[-1] = (worth, runs[-1][1] + 1)
        else:
            runs.append((worth, 1))
    return [f"{worth}x{many}" if many > 1 else f"{worth}" for worth, many in runs]


def read_samples(text):
    """The rows of samples of a text."""
    found = {}
    for at, words in rows_of(text):
        row = _read_samples_row(words[1:])
        if not is_name(words[0]) or words[0] in found or len(found) == MOST_NAMES:
            raise NoRow(at)
        if row is None or any([len(row) != len(other) for other in list(found.values())]):
            raise NoRow(at)
        found[words[0]] = row
    if not found:
        raise NoRow(len(text.split("\n")))
    return found


def _read_samples_row(words):
    """The worths of a row, None where something in it is no run, or where they are too many."""
    found = []
    for word in words:
        worth, many = _read_run(word)
        if not is_worth(worth) or not is_whole(many, 1, MOST_SAMPLES - len(found)):
            return None
        found.extend([worth] * many)
    return found


def _read_run(word):
    """What would be a worth, and how many of it."""
    words = word.split("x")
    if len(words) == 1:
        return (number_of(word), 1)
    if len(words) == 2:
        return (number_of(words[0]), number_of(words[1]))
    return (None, None)
