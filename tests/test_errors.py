"""Point 7: the refusals, their families and their fields."""

import unittest

from cordsounds import errors
from things import SoundTest, any_things

FOUND_UNDER_SOUND_ERROR = (
    "NoNumber NoName NoWorth NoManner NoTable NoPart NoCord NoOut NoPatch NoIns NoOrder NoKey NoTruth NoSong "
    "NoStand NoDeed NoList NoText NoLine Twice"
).split()
REFUSALS = (
    [(name, errors.SoundError, "found") for name in FOUND_UNDER_SOUND_ERROR]
    + [("NoRow", errors.SoundError, "at"), ("TooMany", errors.SoundError, "many")]
    + [(name, errors.Missing, "found") for name in ("NotThere", "NoPort", "NoSetting")]
    + [(name, errors.Barred, "found") for name in ("Ring", "Taken", "Over")]
)
FAMILIES = [(errors.SoundError, ValueError), (errors.Missing, KeyError), (errors.Barred, LookupError)]


class FamiliesTest(SoundTest):
    def test_families_stand_straight_under_pythons_errors(self):
        for family, above in FAMILIES:
            self.assertEqual(family.__bases__, (above,))

    def test_families_are_made_of_one_text(self):
        for family, _ in FAMILIES:
            self.assertIn("a text", str(family("a text")))
            self.assertEqual(family("a text").args, ("a text",))

    def test_all_refusals_are_there_and_no_others(self):
        own = [name for name, thing in vars(errors).items() if isinstance(thing, type)]
        wanted = [name for name, _, _ in REFUSALS] + ["SoundError", "Missing", "Barred"]
        self.assertEqual(sorted(own), sorted(wanted))
        self.assertEqual(len(REFUSALS), 28)


class RefusalsTest(SoundTest):
    def test_each_stands_straight_under_its_family(self):
        for name, family, _ in REFUSALS:
            self.assertEqual(getattr(errors, name).__bases__, (family,), name)

    def test_each_is_made_by_place_and_by_name_of_any_thing(self):
        for name, _, field in REFUSALS:
            refusal = getattr(errors, name)
            for thing in any_things():
                for made in (refusal(thing), refusal(**{field: thing})):
                    self.assertIs(getattr(made, field), thing, name)
                    self.assertEqual(vars(made), {field: thing}, name)

    def test_each_can_be_raised_and_caught_by_its_family(self):
        for name, family, field in REFUSALS:
            refusal = getattr(errors, name)
            thing = [name]
            with self.assertRaises(family) as caught:
                raise refusal(thing)
            self.assertIs(getattr(caught.exception, field), thing)
            for other, _ in FAMILIES:
                self.assertEqual(isinstance(caught.exception, other), other is family)

    def test_each_can_be_shown_whatever_it_is_made_of(self):
        for name, _, _ in REFUSALS:
            for thing in any_things():
                self.assertIsInstance(str(getattr(errors, name)(thing)), str)

    def test_each_wants_just_its_one_thing(self):
        for name, _, _ in REFUSALS:
            refusal = getattr(errors, name)
            for args, named in (((), {}), ((1, 2), {}), ((), {"other": 1})):
                with self.assertRaises(TypeError):
                    refusal(*args, **named)

    def test_what_it_is_made_of_is_not_copied_nor_changed(self):
        inner = {"a": [1, 2]}
        made = errors.NoIns(inner)
        inner["a"].append(3)
        self.assertIs(made.found, inner)
        self.assertEqual(made.found, {"a": [1, 2, 3]})


if __name__ == "__main__":
    unittest.main()
