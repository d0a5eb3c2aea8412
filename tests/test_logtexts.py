"""Points 111, 114, 115: the texts of logs and of rows of samples, written and read."""

import random
import unittest

from cordsounds.errors import NoList, NoText
from cordsounds.logtexts import log_text, read_log, read_samples, samples_text
from cordsounds.patch import Patch
from cordsounds.sounder import Sounder, replayed
from patches import EDGES, TONE, random_names
from rows import NO_NUMBERS, RowTest, loose, no_texts
from things import HUGE, any_things

# Of each word some rows at the bounds, and how they are written.
ROWS = {
    (0, "press", 0, 1): "0 press 0 1",
    (600, "press", 127, 2047): "600 press 127 2047",
    (7, "let_go", 60): "7 let_go 60",
    (7, "pedal", True): "7 pedal yes",
    (8, "pedal", False): "8 pedal no",
    (1, "turn", "osc", "x0", -256, 0): "1 turn osc x0 -256 0",
    (1, "turn", "osc", "x7", 2048, 400): "1 turn osc x7 2048 400",
    (2, "turn", "yes", "step", 0, 5): "2 turn yes step 0 5",
    (3, "put_cord", "a", "abcdefgh", "in"): "3 put_cord a abcdefgh in",
    (3, "take_cord", "press", "a"): "3 take_cord press a",
    (4, "save", "no"): "4 save no",
    (4, "lead", "x", 0): "4 lead x 0",
    (4, "lead", "x", 400): "4 lead x 400",
    (4, "put_back", "abcdefgh"): "4 put_back abcdefgh",
}
# Things that stand in no row, each as a tuple and as it would be written.
NO_ROWS = [
    (), (0,), (0, "press"), (0, "press", 60), (0, "press", 60, 5, 5), (-1, "press", 60, 5), (601, "press", 60, 5),
    (0, "press", -1, 5), (0, "press", 128, 5), (0, "press", 60, 0), (0, "press", 60, 2048), (0, "Press", 60, 5),
    (0, "let_go"), (0, "let_go", 128), (0, "let_go", 60, 5), (0, "letgo", 60), (0, "pedal"), (0, "pedal", 1), (0, "pedal", 0),
    (0, "pedal", "Yes"), (0, "turn", "a", "x8", 5, 0), (0, "turn", "a", "x", 5), (0, "turn", "a", "x00", 5, 0),
    (0, "turn", "A", "step", 5, 0), (0, "turn", "a", "Step", 5, 0), (0, "turn", "a", "step", -257, 0),
    (0, "turn", "a", "step", 2049, 0), (0, "turn", "a", "step", 5, -1), (0, "turn", "a", "step", 5, 401),
    (0, "turn", "a", "step", 5, 0, 0), (0, "turn", "x0", "step", 5, 0), (0, "put_cord", "a", "b"), (0, "put_cord", "a", "b", "c", "d"),
    (0, "put_cord", "a", "b", "x0"), (0, "put_cord", "A", "b", "c"), (0, "put_cord", "a", "abcdefghi", "c"),
    (0, "take_cord", "a"), (0, "take_cord", "a", "b", "c"), (0, "take_cord", "a", 1), (0, "save"), (0, "save", "A"),
    (0, "save", "a", "b"), (0, "lead", "a"), (0, "lead", "a", 401), (0, "lead", "a", -1), (0, "lead", "a", 0, 0), (0, "lead", 1, 0),
    (0, "put_back"), (0, "put_back", "a", 0), (0, "put_back", "a1"), (0, "samples", 5), (0, "time"), (0, "word"), ("press", 0, 60, 5),
    (HUGE, "press", 60, 5), (0, "press", HUGE, 5), (0, "press", 60, -HUGE), (0, "put_part", "a", "b")]


def random_row(chance):
    return chance.choice(list(ROWS) + [
        (chance.randint(0, 600), "press", chance.randint(0, 127), chance.randint(1, 2047)),
        (chance.randint(0, 600), "turn", *random_names(chance, 2), chance.randint(-256, 2048), chance.randint(0, 400)),
        (chance.randint(0, 600), "put_cord", *random_names(chance, 3))])


def played():
    """A Sounder to which each deed was done."""
    sounder = Sounder(Patch(*TONE), 2)
    sounder.press(60)
    sounder.samples(5)
    sounder.pedal(True)
    sounder.let_go(60)
    sounder.save("a")
    sounder.turn("mixed", "x1", -256, over=400)
    sounder.turn("osc", "step", 2048)
    sounder.lead("a", over=3)
    sounder.samples(50)
    sounder.take_cord("osc", "pitch")
    sounder.put_cord("forc", "osc", "pitch")
    sounder.put_back("a")
    sounder.pedal(False)
    sounder.samples(545)
    sounder.press(127, 1)
    return sounder


class LogTest(RowTest):
    def test_each_word(self):
        for row, text in ROWS.items():
            self.assertEqual(log_text([row]), text)
            self.assertEqual(read_log(text), [row])
        self.assertEqual(log_text(log=list(ROWS)), "\n".join(ROWS.values()))
        self.assertEqual(log_text(tuple(ROWS)), "\n".join(ROWS.values()))
        told = read_log(text="\n".join(ROWS.values()))
        self.assertEqual(told, list(ROWS))
        self.assertIs(told.__class__, list)
        for row in told:
            if row[1] == "pedal":
                self.assertIs(row[2].__class__, bool)

    def test_of_no_rows(self):
        self.assertEqual((log_text([]), log_text(())), ("", ""))
        for text in ("", "\n", "  \n \n\n"):
            self.assertEqual(read_log(text), [])

    def test_read_as_it_was_written(self):
        for at in range(100):
            chance = random.Random(at)
            log = [random_row(chance) for _ in range(chance.randint(1, 30))]
            text = log_text(log)
            self.assertEqual(read_log(text), log)
            self.assertEqual(log_text(read_log(text)), text)
            self.assertEqual(read_log(loose(chance, text)[0]), log)

    def test_of_a_sounder(self):
        sounder = played()
        log = read_log(log_text(sounder.log()))
        self.assertEqual(log, sounder.log())
        other = replayed(Patch(*TONE), 2, log, sounder.time())
        self.assertEqual((other.recorded(), other.choir()), (sounder.recorded(), sounder.choir()))

    def test_refused_of_what_is_no_log(self):
        for thing in any_things():
            if not isinstance(thing, (list, tuple)) or len(thing) > 0:
                self.refused(NoList, thing, log_text, thing)
        good = list(ROWS)
        for row in NO_ROWS + any_things() + [list(good[0]), (0, "pedal", "yes"), (True, "press", 60, 5), (0, "press", True, 5),
                                             (0, "press", "60", 5), ("0", "press", 60, 5), (0, "turn", "a", "step", True, 0),
                                             (0, "turn", "a", ["x0"], 5, 0), (0, ["press"], 60, 5), (0, "save", None),
                                             (0, None, 60), (0, "turn", "a", None, 5, 0)]:
            for log in ([row], [good[0], row], (row, good[0]), good[:5] + [row] + good[5:]):
                self.refused(NoList, log, log_text, log)

    def test_refused_of_what_is_no_text(self):
        for thing in no_texts():
            self.refused(NoText, thing, read_log, thing)
        self.assertEqual(read_log(" " * 30000), [])
        self.assertEqual(read_log("0 press 0 1".ljust(30000)), [(0, "press", 0, 1)])

    def test_rows_that_are_none(self):
        texts = [" ".join(str(thing) for thing in row) for row in NO_ROWS if row]
        texts += ["0 pedal True", "0 pedal YES", "0 pedal -", "0 press 60 -", "press 60 5", "x", "-", "/", "0 pedal yes no"]
        for number in NO_NUMBERS:
            texts += [f"{number} pedal yes", f"0 press {number} 5", f"0 press 60 {number}", f"0 lead a {number}",
                      f"0 turn a step {number} 5", f"0 turn a step 5 {number}"]
        good = "\n".join(ROWS.values())
        for row in texts:
            self.no_row(0, read_log, row)
            self.no_row(0, read_log, row + "\n" + good)
            self.no_row(14, read_log, good + "\n " + row)
            self.no_row(4, read_log, "\n  \n7 let_go 60\n\n" + row + "\nx\n" + row)

    def test_the_first_wrong_row_all_rows_counted(self):
        for at in range(100):
            chance = random.Random(at)
            text, numbers = loose(chance, log_text([random_row(chance) for _ in range(9)]))
            rows = text.split("\n")
            wrong = sorted(chance.sample(numbers, chance.randint(1, 3)))
            for place in wrong:
                rows[place] = chance.choice(["no", rows[place] + " 0", "0", rows[place].upper()])
            self.no_row(wrong[0], read_log, "\n".join(rows))


class SamplesTest(RowTest):
    def same(self, told, rows):
        self.assertEqual(list(told.items()), [(name, list(row)) for name, row in rows.items()])
        for row in told.values():
            self.assertIs(row.__class__, list)

    def test_some(self):
        rows = {"left": [0] * 12 + [-5, 7, 7]}
        self.assertEqual(samples_text(rows=rows), "left 0x12 -5 7x2")
        self.same(read_samples(text="left 0x12 -5 7x2"), rows)
        rows = {"b": (1, 1, 2, 1), "a": [-2048, 2047, 2047, 0]}
        self.assertEqual(samples_text(rows), "b 1x2 2 1\na -2048 2047x2 0")
        self.same(read_samples("b 1x2 2 1\na -2048 2047x2 0"), rows)

    def test_without_samples(self):
        for names in ("a", "ab", "abcd"):
            rows = {name: [] for name in names}
            self.assertEqual(samples_text(rows), "\n".join(names))
            self.same(read_samples(samples_text(rows)), rows)

    def test_read_as_it_was_written(self):
        for at in range(150):
            chance = random.Random(at)
            length = chance.choice([0, 1, 2, 600, chance.randint(0, 600)])
            rows = {}
            for name in random_names(chance, chance.randint(1, 4)):
                row = []
                while len(row) < length:
                    row += [chance.choice(EDGES + [chance.randint(-2048, 2047)])] * chance.choice([1, 1, 2, 3, 50, 600])
                rows[name] = row[:length]
            text = samples_text(rows)
            self.same(read_samples(text), rows)
            self.assertEqual(samples_text(read_samples(text)), text)
            self.same(read_samples(loose(chance, text)[0]), rows)
            self.same(read_samples(self.cut(chance, text)), rows)

    def cut(self, chance, text):
        """The text with some runs cut in two, and with `x1` behind some worths."""
        rows = []
        for row in text.split("\n"):
            name, *words = row.split(" ")
            found = [name]
            for word in words:
                worth, _, many = word.partition("x")
                many = int(many or 1)
                ahead = chance.randint(0, many)
                found += [f"{worth}x{part}" if part > 1 or chance.random() < 0.5 else worth
                          for part in (ahead, many - ahead) if part > 0]
            rows.append(" ".join(found))
        return "\n".join(rows)

    def test_runs_are_as_long_as_may_be(self):
        self.assertEqual(samples_text({"a": [5] * 600}), "a 5x600")
        self.assertEqual(samples_text({"a": [5, 5, 4, 4, 4, 5]}), "a 5x2 4x3 5")

    def test_of_a_sounder(self):
        recorded = played().recorded()
        self.same(read_samples(samples_text(recorded)), recorded)

    def test_refused_of_what_are_no_rows(self):
        for thing in any_things():
            self.refused(NoList, thing, samples_text, thing)
        for thing in any_things() + [2048, -2049, "1"]:
            if not isinstance(thing, (list, tuple)) or list(thing) not in ([], [0]):
                for rows in ({"a": thing}, {"a": [1], "b": thing}, {"b": thing, "a": [1]}):
                    self.refused(NoList, rows, samples_text, rows)
            if thing not in (0, 1) or isinstance(thing, bool):
                for row in ([thing], [1, thing], (thing, 1), [0] * 599 + [thing]):
                    rows = {"a": [1] * len(row), "b": row}
                    self.refused(NoList, rows, samples_text, rows)
        for rows in ({"a": [1], "b": []}, {"a": [], "b": [1]}, {"a": [1, 1], "b": [2, 2], "c": [3]}, {"a": [0] * 601},
                     {name: [1] for name in "abcde"}, {"A": [1]}, {"a": [1], "": [1]}, {1: [1]}, {None: [1]}, {"a": [1], ("b",): [1]},
                     [("a", [1])], {"a": {0: 1}}, {"a": "1"}):
            self.refused(NoList, rows, samples_text, rows)
        self.assertEqual(samples_text({name: [0] * 600 for name in "abcd"}), "a 0x600\nb 0x600\nc 0x600\nd 0x600")

    def test_refused_of_what_is_no_text(self):
        for thing in no_texts():
            self.refused(NoText, thing, read_samples, thing)
        self.same(read_samples("a 1".ljust(30000)), {"a": [1]})

    def test_rows_that_are_none(self):
        words = ["2048", "-2049", "x", "x1", "1x", "1x0", "1x-1", "1x1x1", "1x2x", "1X2", "1*2", "1x 2", "a", "-", "1,2", "1x601",
                 "1x600", "1x" + "9" * 30, "1x" + "9" * 31, "9" * 30, "-" + "9" * 30 + "x2", "1x01", "01x1", "-0x2", "1x-0", "1x+1"]
        words += [word for number in NO_NUMBERS if number not in ("", "0x1") for word in (number, f"{number}x2", f"1x{number}")]
        for word in words:
            self.no_row(0, read_samples, "a 5 " + word)
            self.no_row(1, read_samples, "\na 5 " + word + " 5\nb 5\nB")
            self.no_row(2, read_samples, "a 1 2\n\nb 5 " + word + "\nx")
        for name in ("A", "a1", "abcdefghi", "1", "5x2", "-", "x0"):
            self.no_row(0, read_samples, name + " 1")
            self.no_row(1, read_samples, "a 1\n" + name + " 1")
            self.no_row(0, read_samples, name)

    def test_rows_that_are_none_beside_others(self):
        for text in ("a 1\na 1", "a 1\na", "a 1\nb", "a\nb 1", "a 1\nb 1 1", "a 1x2\nb 1", "a 1x600\nb 1x599 1 1",
                     "a 1\nb 2\nb 2", "a 1\nb 1x2"):
            self.no_row(len(text.split("\n")) - 1, read_samples, text)
        self.no_row(6, read_samples, "a 1\n\nb 1\n\nc 1\nd 1\ne 1")
        self.no_row(0, read_samples, "a 1x600 1\nb 1")
        self.no_row(0, read_samples, "a" + " 1" * 601)
        self.same(read_samples("a" + " 1" * 600), {"a": [1] * 600})
        self.same(read_samples("a 1x1\nb 2x1\nc 3\nd 4"), {"a": [1], "b": [2], "c": [3], "d": [4]})

    def test_where_no_name_stands(self):
        for text, at in (("", 1), (" ", 1), ("\n", 2), ("\n\n  \n", 4), (" " * 30000, 1), ("\n" * 30000, 30001)):
            self.no_row(at, read_samples, text)


if __name__ == "__main__":
    unittest.main()
