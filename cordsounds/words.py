"""Words and rows of texts, and the whole numbers that are written in them."""

from cordsounds.errors import NoText

MOST_SIGNS = 30000
MOST_FIGURES = 30

_TRUTHS = {"yes": True, "no": False}


def rows_of(text):
    """Of each row of a text that has a word its number, all rows counted, and its words."""
    if not isinstance(text, str) or len(text) > MOST_SIGNS:
        raise NoText(text)
    rows = [[word for word in row.split(" ") if word != ""] for row in text.split("\n")]
    return [(at, words) for at, words in enumerate(rows) if words]


def number_of(word):
    """The whole number that is plainly written so, None where none is."""
    figures = word[1:] if word.startswith("-") else word
    if not 1 <= len(figures) <= MOST_FIGURES or not all(["0" <= sign <= "9" for sign in figures]):
        return None
    # Written back it is otherwise where a 0 stands ahead, or `-` ahead of 0.
    number = int(word)
    return number if str(number) == word else None


def truth_of(word):
    """The truth that is written so, None where none is."""
    return _TRUTHS.get(word)
