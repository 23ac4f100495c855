"""The exceptions that the interface lists."""

import copy
import unittest

from startgaps import errors
from tests.samples import Case

PLAIN = (
    "NoWork", "NoLine", "NoKind", "OnlyOne", "NoPlan", "NoKinds", "NoCounts", "NoState", "NoChoice", "NoTick",
    "NoLap", "NotFitting", "NoWorths", "NoWaits", "NoDistance", "NotTwo", "NoRate", "NoBars", "NoTicks",
    "NoStation", "NoPace", "NoText", "NothingDone",
)
WITH_FIELDS = {
    "TooMany": ("amount", "limit"),
    "TooFar": ("bar", "limit"),
    "TooLong": ("ticks", "limit"),
    "Clash": ("tick", "station"),
    "TooSoon": ("ticks",),
}


class Errors(Case):

    def test_base(self):
        self.assertEqual(errors.GapError.__bases__, (ValueError,))

    def test_all_are_derived_directly(self):
        for name in (*PLAIN, *WITH_FIELDS):
            with self.subTest(name):
                error = getattr(errors, name)
                self.assertEqual(error.__name__, name)
                self.assertEqual(error.__module__, "startgaps.errors")
                self.assertEqual(error.__bases__, (errors.GapError,))

    def test_no_others(self):
        found = [name for name in vars(errors) if not name.startswith("_")]
        self.assertEqual(sorted(found), sorted(["GapError", *PLAIN, *WITH_FIELDS]))

    def test_made_with_a_message_or_none(self):
        for name in ("GapError", *PLAIN):
            with self.subTest(name):
                error = getattr(errors, name)
                self.assertEqual(str(error()), "")
                self.assertEqual(str(error("what is wrong")), "what is wrong")
                for made in (error(), error("what is wrong")):
                    with self.assertRaises(error) as caught:
                        raise made
                    self.assertIs(caught.exception, made)

    def test_fields_by_position(self):
        for name, fields in WITH_FIELDS.items():
            with self.subTest(name):
                values = tuple(range(70, 70 + len(fields)))
                made = getattr(errors, name)(*values)
                self.same(tuple(getattr(made, field) for field in fields), values)
                self.assertEqual(vars(made), dict(zip(fields, values)))

    def test_fields_by_name(self):
        for name, fields in WITH_FIELDS.items():
            with self.subTest(name):
                values = tuple(range(70, 70 + len(fields)))
                made = getattr(errors, name)(**dict(zip(fields, values)))
                self.same(tuple(getattr(made, field) for field in fields), values)

    def test_fields_must_be_given(self):
        for name, fields in WITH_FIELDS.items():
            with self.subTest(name):
                error = getattr(errors, name)
                self.assertRaises(TypeError, error)
                self.assertRaises(TypeError, error, *fields[1:])
                self.assertRaises(TypeError, error, *fields, 0)

    def test_fields_are_kept_when_raised(self):
        for name, fields in WITH_FIELDS.items():
            with self.subTest(name):
                error = getattr(errors, name)
                with self.assertRaises(errors.GapError) as caught:
                    raise error(*fields)
                self.assertIs(type(caught.exception), error)
                self.assertEqual([getattr(caught.exception, field) for field in fields], list(fields))

    def test_fields_are_told_in_the_message(self):
        for name, fields in WITH_FIELDS.items():
            with self.subTest(name):
                values = tuple(range(70, 70 + len(fields)))
                for value in values:
                    self.assertIn(str(value), str(getattr(errors, name)(*values)))

    def test_copies_have_the_same_fields(self):
        for name, fields in WITH_FIELDS.items():
            with self.subTest(name):
                made = getattr(errors, name)(*fields)
                self.assertEqual(vars(copy.deepcopy(made)), vars(made))


if __name__ == "__main__":
    unittest.main()
