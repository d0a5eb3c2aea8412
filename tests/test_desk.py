"""Points 121, 122: the Desk, each form of line, what is refused, and lines told together."""

import random
import unittest

from cordsounds.bounds import bounds
from cordsounds.desk import Desk
from cordsounds.errors import (
    NoKey, NoLine, NoName, NoNumber, NoPart, NoPort, NoSetting, NoSong, NoStand, NotThere, Over, Ring, Taken, Twice)
from cordsounds.logtexts import samples_text
from cordsounds.patch import Patch
from cordsounds.smaller import smaller, steady, unheard
from cordsounds.songs import Song
from cordsounds.sounder import Sounder
from cordsounds.texts import patch_text, song_text
from patches import BARE, TONE, of_voices, random_patches
from rows import NO_NUMBERS, RowTest
from songlists import SONG, random_song
from test_smaller import random_wasteful
from things import HUGE, any_things

SOUNDER_LINES = ["press 60 5", "letgo 60", "pedal yes", "pedal no", "turn osc step 5 0", "cord pit osc pitch",
                 "uncord osc pitch", "save a", "lead a 0", "back a", "go 5", "voices", "stolen", "clipped", "folded", "stands",
                 "time"]
LOOKS = ["voices", "stolen", "clipped", "folded", "stands", "time", "unheard tone", "smaller tone", "smaller bare"]


def on_a_line(text):
    return " / ".join(text.split("\n"))


def desk(opened=None):
    """A Desk of two Patches and a Song, and perhaps with a Sounder."""
    found = Desk()
    found.say("patch tone " + on_a_line(patch_text(Patch(*TONE))))
    found.say("patch bare " + on_a_line(patch_text(Patch(*BARE))))
    found.say("song tune " + on_a_line(song_text(Song(*SONG))))
    if opened is not None:
        found.say(opened)
    return found


def played():
    """A Desk to whose Sounder something of each sort was done."""
    found = desk("open tone 2 tune")
    for line in ("press 70 2047", "press 71 2047", "go 9", "press 72 2047", "save a", "turn osc step 900 60", "pedal yes",
                 "letgo 72", "go 20"):
        found.say(line)
    return found


def all_of(one):
    """All that a Desk with a Sounder tells, now and by what could come."""
    told = [one.say(line) for line in LOOKS]
    return told + one._twin().say_all(["lead a 9", "go 5", "back a", "go 5", "open bare 1 tune", "go 20"])


class LineTest(RowTest):
    def test_keeps_patches_and_songs(self):
        one = desk()
        self.assertEqual(one.say(line="patch tone part a noise 1 / out o a"), "ok")
        self.assertEqual(one.say("smaller tone"), "part a noise 1 / out o a")
        self.assertEqual(one.say("song tune pattern a 48:60:1 / row a / tempo 0 2"), "ok")
        self.assertEqual(one.say("patch tune part a noise 2 / out o a"), "ok")
        self.assertEqual(one.say("open tune 1 tune"), "ok")
        self.assertEqual(one.say("go 1"), "o -2046")
        self.assertEqual(one.say("voices"), "60 down")

    def test_open(self):
        one = desk()
        self.assertEqual(one.say("open bare 1"), "ok")
        self.assertEqual(one.say("go 3"), "gate 0x3; pitch 0x3; force 0x3; knob 0x3")
        self.assertEqual(one.say("open bare 6 tune"), "ok")
        self.assertEqual(one.say("time"), "0")
        self.assertEqual(one.say("go 16"), "gate 1x10 0x5 1; pitch -64x15 -96; force 1000x15 1700; knob 0x16")
        self.assertEqual(one.say("voices"), "60 free; 62 down; - free; - free; - free; - free")

    def test_what_was_opened_is_of_the_patch_of_then(self):
        one = desk("open bare 1")
        one.say("patch bare part a noise 1 / out o a")
        self.assertEqual(one.say("go 1"), "gate 0; pitch 0; force 0; knob 0")

    def test_each_answer(self):
        one = desk("open bare 3")
        for line, answer in (
                ("voices", "- free; - free; - free"), ("stolen", "-"), ("clipped", "-"), ("folded", "-"), ("stands", "-"),
                ("time", "0"), ("letgo 127", "-"), ("press 127 1024", "0"), ("press 126 1024", "1"), ("save b", "ok"),
                ("press 125 1024", "2"), ("save a", "ok"), ("stands", "b; a"), ("go 1", "gate 3; pitch 2047; force 2047; knob 0"),
                ("clipped", "pitch 0; force 0"), ("press 0 1", "0"), ("press 1 2", "1"), ("stolen", "1 0 127; 1 1 126"),
                ("voices", "0 down; 1 down; 125 down"), ("pedal yes", "ok"), ("letgo 1", "1"), ("letgo 1", "-"),
                ("voices", "0 down; 1 held; 125 down"), ("pedal no", "ok"), ("voices", "0 down; 1 free; 125 down"), ("time", "1"),
                ("go 2", "gate 2x2; pitch -1056x2; force 1027x2; knob 0x2"), ("back b", "ok"),
                ("go 1", "gate 2; pitch 2000; force 2047; knob 0"), ("lead b 400", "ok"), ("time", "4"), ("folded", "-")):
            self.assertEqual(one.say(line), answer, line)

    def test_turns_and_cords(self):
        one = desk("open tone 1")
        for line in ("press 60 1024", "save a", "turn osc step 200 0", "turn mixed x0 -256 400", "uncord osc pitch",
                     "cord gat osc pitch", "save b", "lead b 0"):
            self.assertIn(one.say(line), ("ok", "0"))
        other = Sounder(Patch(*TONE), 1)
        other.press(60)
        other.turn("osc", "step", 200)
        other.turn("mixed", "x0", -256, over=400)
        other.take_cord("osc", "pitch")
        other.put_cord("gat", "osc", "pitch")
        self.assertEqual(one.say("go 40"), "; ".join(samples_text(other.samples(40)).split("\n")))
        self.refused_of(NoStand, "a", one.say, "lead a 0")

    def test_folded(self):
        one = desk()
        one.say("patch loud part n mix 256,256 fold / part f from force / part t taps 256,256 clip / cord f n a / cord f n b"
                " / cord f t in / out o n")
        one.say("open loud 2")
        for line in ("press 1 5", "press 2 2000", "go 2"):
            one.say(line)
        self.assertEqual(one.say("folded"), "1 n 0; 1 t 1")

    def test_about_patches(self):
        for chance, _ in random_patches(121, 60):
            patch, one = Patch(*random_wasteful(chance, chance.randint(1, 12))), Desk()
            self.assertEqual(one.say("patch it " + on_a_line(patch_text(patch))), "ok")
            self.assertEqual(one.say("unheard it"), "; ".join(unheard(patch)) or "-")
            self.assertEqual(one.say("steady it"), "; ".join(steady(patch)) or "-")
            self.assertEqual(one.say("smaller it"), on_a_line(patch_text(smaller(patch))))
            for name, part in patch.parts():
                if part[0] in ("taps", "mix"):
                    self.assertEqual(one.say("bounds it " + name), " ".join(str(number) for number in bounds(part)))
                else:
                    self.refused_of(NoPart, part, one.say, "bounds it " + name)
        self.assertEqual(desk().say("bounds tone mixed"), "-966656 966184 -2048 2047")

    def test_slashes(self):
        one = Desk()
        for line, at in (("patch a /", 0), ("patch a / part a noise 1", 0), ("patch a part a noise 1 / / out o a", 1),
                         ("patch a part a noise 1 /", 0), ("patch a part a noise 1 / out o a /", 1),
                         ("patch a part a / noise 1", 0), ("patch a part a noise 1 / / / out o a", 1), ("patch a / /", 0),
                         ("patch a part a/ noise 1", 0), ("song a row / / row", 1), ("song a / / /", 0)):
            self.no_row(at, one.say, line)
        self.refused_of(NotThere, "a", one.say, "smaller a")

    def test_number_of_a_row_where_no_row_is(self):
        self.no_row(2, Desk().say, "song s row / tempo 0 1 / row a / x")

    def test_as_a_sounder_tells(self):
        for chance, lists in random_patches(122, 40):
            lists, many, tune = of_voices(chance, lists), chance.randint(1, 6), random_song(chance)
            one, song = Desk(), Song(*tune)
            one.say("patch p " + on_a_line(patch_text(Patch(*lists))))
            one.say("song s " + on_a_line(song_text(song)))
            one.say(f"open p {many} s")
            sounder = Sounder(Patch(*lists), many, song=song)
            for _ in range(20):
                key, force, length = chance.randint(55, 65), chance.randint(1, 2047), chance.randint(1, 20)
                self.assertEqual(one.say(f"press {key} {force}"), str(sounder.press(key, force)))
                voice = sounder.let_go(key + 1)
                self.assertEqual(one.say(f"letgo {key + 1}"), "-" if voice is None else str(voice))
                self.assertEqual(one.say(f"go {length}"), "; ".join(samples_text(sounder.samples(length)).split("\n")))
                choir = sounder.choir()
                self.assertEqual(one.say("folded"), "; ".join(f"{at} {name} {sample}" for at, name, sample in choir.foldings()) or "-")
                self.assertEqual(one.say("stolen"), "; ".join(f"{sample} {at} {key}" for sample, at, key in choir.stolen()) or "-")
                self.assertEqual(one.say("clipped"), "; ".join(f"{out} {at}" for out, at in sounder.clipped().items()) or "-")
                self.assertEqual(one.say("time"), str(sounder.time()))


class RefusedTest(RowTest):
    def test_no_line(self):
        lines = ["", " ", "  ", "\n", "x", "Press 60 5", "press  60 5", " press 60 5", "press 60 5 ", "press 60 5\n", "press\n60 5",
                 "\ntime", "time\n", "time ", " time", "-", "/", "ok", "patch  a x", "patch a x  y", "patch a  x", "patch a x ",
                 "patch a part a noise 1\nout o a", "press 60, 5", "pedal", "pedal Yes", "pedal true", "pedal 1", "pedal yes no",
                 "open", "open tone", "open tone x", "open tone 1 tune tune", "open tone tune", "patch", "patch a", "song", "song a",
                 "let_go 60", "put_cord a b c", "put_back a", "take_cord a b"]
        forms = ["press 60 5", "letgo 60", "turn osc step 5 0", "cord a b c", "uncord a b", "save a", "lead a 0", "back a", "go 5",
                 "voices", "stolen", "clipped", "folded", "stands", "time", "unheard tone", "steady tone", "smaller tone",
                 "bounds tone mixed"]
        for form in forms:
            lines += [form + " 1", form + " a", form.upper(), form + "\n", form + " ", form.replace(" ", "  ") + "  "]
            if " " in form:
                lines += [form.rpartition(" ")[0], form.partition(" ")[0], form.partition(" ")[0] + " "]
        for number in NO_NUMBERS:
            lines += [f"press {number} 5", f"press 60 {number}", f"letgo {number}", f"turn osc step {number} 5",
                      f"turn osc step 5 {number}", f"lead a {number}", f"go {number}", f"open tone {number}",
                      f"open no {number} tune"]
        for opened in (None, "open tone 1"):
            one = desk(opened)
            for line in lines + [thing for thing in any_things()]:
                self.refused(NoLine, line, one.say, line)

    def test_any_word_stands_in_capitals(self):
        one = desk("open tone 1")
        for line, refusal, found in (
                ("save A", NoName, "A"), ("save -", NoName, "-"), ("back /", NotThere, "/"), ("lead 5 5", NotThere, "5"),
                ("turn 1 2 3 4", NotThere, "1"), ("turn osc / 3 4", NoSetting, "/"), ("uncord 1 2", NotThere, ("1", "2")),
                ("unheard 1", NotThere, "1"), ("bounds / /", NotThere, "/"), ("bounds tone /", NotThere, "/"),
                ("patch / x", NoName, "/"), ("song 1 x", NoName, "1"), ("open / 1", NotThere, "/")):
            self.refused_of(refusal, found, one.say, line)

    def test_thirty_figures(self):
        one = desk("open tone 1")
        for number in (HUGE, -HUGE):
            self.refused_of(NoKey, number, one.say, f"press {number} {number}")
            self.refused_of(NoKey, number, one.say, f"letgo {number}")
            self.refused_of(NoNumber, number, one.say, f"go {number}")
            self.refused_of(NoNumber, number, one.say, f"turn osc step {number} {number}")
            self.refused_of(NoNumber, number, one.say, f"turn osc step 5 {number}")
            self.refused_of(NoNumber, number, one.say, f"open tone {number}")
            for line in (f"press {number}0 5", f"go {number}1"):
                self.refused(NoLine, line, one.say, line)

    def test_without_a_sounder(self):
        for one in (Desk(), desk()):
            for line in SOUNDER_LINES + ["press 999 0", "go 0", "turn no no 5 999", "save A", "lead no 5"]:
                self.refused(Over, None, one.say, line)
        one = desk()
        for line in ("open no 1", "open tone 9", "open tone 1 no"):
            with self.assertRaises((NotThere, NoNumber)):
                one.say(line)
            self.refused(Over, None, one.say, "time")

    def test_what_is_not_kept(self):
        one = desk("open tone 1")
        for line, found in (("open no 9", "no"), ("open no 9 nor", "no"), ("open tone 9 nor", "nor"), ("open tune 1", "tune"),
                            ("open tone 1 tone", "tone"), ("unheard no", "no"), ("steady tune", "tune"), ("smaller no", "no"),
                            ("bounds no no", "no"), ("bounds tone no", "no")):
            self.refused_of(NotThere, found, one.say, line)
        for many in (0, 7, -1):
            self.refused_of(NoNumber, many, one.say, f"open tone {many}")
            self.refused_of(NoNumber, many, one.say, f"open tone {many} tune")

    def test_as_the_stages_refuse(self):
        one = played()
        before = all_of(one)
        for line, refusal, found in (
                ("press 128 0", NoKey, 128), ("press 60 0", NoNumber, 0), ("press -1 5", NoKey, -1), ("letgo 128", NoKey, 128),
                ("turn no step 5 0", NotThere, "no"), ("turn osc x0 5 0", NoSetting, "x0"), ("turn osc step -1 0", NoNumber, -1),
                ("turn osc step 5 401", NoNumber, 401), ("cord no osc pitch", NotThere, "no"),
                ("cord pit osc in", NoPort, ("osc", "in")), ("cord pit osc pitch", Taken, ("osc", "pitch")),
                ("uncord pit in", NotThere, ("pit", "in")), ("save abcdefghi", NoName, "abcdefghi"), ("lead no 999", NotThere, "no"),
                ("lead a 401", NoNumber, 401), ("back no", NotThere, "no"), ("go 0", NoNumber, 0), ("go 601", NoNumber, 601),
                ("go 600", Over, 29), ("open tone 7", NoNumber, 7), ("bounds tone osc", NoPart, ("wave", "tri", 100)),
                ("patch A part", NoName, "A"), ("song A row", NoName, "A"), ("patch tone out o a", NoPart, []),
                ("patch tone part a noise 1 / part a noise 1", Twice, "a"), ("song tune row a", NoSong, {}),
                ("patch tone part a follow 1 / cord a a in / out o a", Ring, ["a"]),
                ("song tune pattern a / row a / tempo 0 1", NoSong, {"a": []})):
            self.refused_of(refusal, found, one.say, line)
            self.assertEqual(all_of(one), before)
        for line, at in (("patch tone x", 0), ("patch tone part a noise 1 / part b noise 4096", 1), ("song tune row A", 0)):
            self.no_row(at, one.say, line)
            self.assertEqual(all_of(one), before)


class TogetherTest(RowTest):
    def test_answers(self):
        lines = ["patch p part a from force / out o a", "open p 1", "press 60 5", "go 2", "voices", "smaller p"]
        for told in (lines, tuple(lines)):
            one = Desk()
            self.assertEqual(one.say_all(lines=told), ["ok", "ok", "0", "o 5x2", "60 down", "part a from force / out o a"])
            self.assertEqual(one.say("time"), "2")
        self.assertEqual((Desk().say_all([]), Desk().say_all(())), ([], []))

    def test_as_one_at_a_time(self):
        for at in range(30):
            chance = random.Random(at)
            more = SOUNDER_LINES[:4] + ["go 7", "save a", "turn osc step 77 9", "folded", "voices", "stolen", "open tone 2"]
            lines = ["open tone 3 tune"] + [chance.choice(more) for _ in range(39)]
            one, other = desk(), desk()
            self.assertEqual(one.say_all(lines), [other.say(line) for line in lines])
            one.say("save a")
            other.say("save a")
            self.assertEqual(all_of(one), all_of(other))

    def test_at_most_forty(self):
        one = played()
        self.assertEqual(one.say_all(["time"] * 40), ["29"] * 40)
        lines = ["time"] * 41
        self.refused(NoLine, lines, one.say_all, lines)
        for thing in any_things():
            if not isinstance(thing, (list, tuple)) or len(thing) > 0:
                if thing not in (["clip"], ("clip",)):
                    self.refused(NoLine, thing, one.say_all, thing)
            if not isinstance(thing, str):
                for lines in (["go 5", thing], (thing, "x"), ["x", thing]):
                    self.refused(NoLine, lines, one.say_all, lines)
        self.refused(NoLine, "time", one.say_all, "time")

    def test_where_one_is_refused_all_is_as_it_was(self):
        one = played()
        before = all_of(one)
        changes = ["go 3", "press 99 5", "save z", "save a", "back a", "uncord osc pitch", "turn osc step 7 0", "pedal no",
                   "patch tone part a noise 1 / out o a", "song tune pattern a 1:1:1 / row a / tempo 0 1", "open bare 1"]
        for line, refusal, found in (("x", NoLine, "x"), ("", NoLine, ""), ("press 128 5", NoKey, 128), ("open no 1", NotThere, "no"),
                                     ("go 601", NoNumber, 601), ("patch A x", NoName, "A")):
            for at in (0, 3, len(changes)):
                self.refused_of(refusal, found, one.say_all, changes[:at] + [line] + changes[at:])
                self.assertEqual(all_of(one), before)
            self.no_row(0, one.say_all, changes + ["patch p x", line])
            self.assertEqual(all_of(one), before)
        one.say_all(changes)
        self.assertEqual([one.say(line) for line in LOOKS[-3:]], ["-", "part a noise 1 / out o a", before[-7]])

    def test_without_a_sounder_ahead(self):
        one = desk()
        self.refused_of(Over, None, one.say_all, ["time", "open tone 1"])
        self.refused_of(NoLine, "x", one.say_all, ["open tone 1", "x"])
        self.refused(Over, None, one.say, "time")
        self.assertEqual(one.say_all(["open tone 1", "time"]), ["ok", "0"])
        self.assertEqual(one.say("time"), "0")

    def test_desks_have_nothing_in_common(self):
        one, other = Desk(), desk("open tone 1")
        self.refused(Over, None, one.say, "time")
        self.refused_of(NotThere, "tone", one.say, "smaller tone")
        self.assertEqual(other.say("time"), "0")


if __name__ == "__main__":
    unittest.main()
