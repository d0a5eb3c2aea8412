"""What tests of texts need: texts by chance, wrong ones, and how a refusal of a row is looked at."""

from things import HUGE, SoundTest, any_things

NO_NUMBERS = ["-0", "00", "01", "-01", "+1", "1.", "1e1", "0x1", "--1", "-", "", "1-", "1_0", "one", "None", "True", "9" * 31,
              "-" + "9" * 31, "0" * 30, "1,", "1:"]


def loose(chance, text):
    """The text with more blanks, and with rows without words; and of each row with words the number."""
    rows, numbers = [], []
    for row in text.split("\n"):
        while chance.random() < 0.3:
            rows.append(" " * chance.randint(0, 3))
        numbers.append(len(rows))
        words = [" " * chance.randint(1, 3) + word for word in row.split(" ")]
        rows.append("".join(words)[chance.randint(0, 1):] + " " * chance.randint(0, 2))
    while chance.random() < 0.3:
        rows.append(" " * chance.randint(0, 3))
    return "\n".join(rows), numbers


def no_texts():
    """Any things that are no text, and texts that are too long."""
    return [thing for thing in any_things() if not isinstance(thing, str)] + [" " * 30001, "\n" * 30001, b"", HUGE]


class RowTest(SoundTest):
    def no_row(self, at, deed, text):
        """Sees to it that a text is refused just with NoRow of this number."""
        with self.assertRaises(Exception) as caught:
            deed(text)
        self.assertEqual(caught.exception.__class__.__name__, "NoRow", text)
        self.assertEqual(caught.exception.at, at, text)
        self.assertIs(caught.exception.at.__class__, int)
