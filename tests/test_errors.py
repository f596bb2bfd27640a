"""Point 12: the errors, their families and their fields."""

import unittest

from onesheetmore import errors

FAMILIES = {
    "PaperError": {"InvalidPaper": ("word", "at")},
    "LayError": {"NotUsable": ("word", "at"), "Refused": ("staircase",), "NotWhole": ("index",),
                 "Unfit": ("kind",), "NoRule": ("kinds",)},
    "LiveError": {"InvalidEvent": ("event", "reason"), "NothingToUndo": ("many",)},
    "TextError": {"InvalidText": ("line", "field"), "InvalidRow": ("row",)},
}


class ErrorsTest(unittest.TestCase):
    def test_families(self):
        self.assertEqual(errors.SheetError.__bases__, (ValueError,))
        for family, kinds in FAMILIES.items():
            self.assertEqual(getattr(errors, family).__bases__, (errors.SheetError,))
            for name in kinds:
                self.assertEqual(getattr(errors, name).__bases__, (getattr(errors, family),))

    def test_fields_are_the_very_objects(self):
        for kinds in FAMILIES.values():
            for name, fields in kinds.items():
                things = [[field, (True, [None])] for field in fields]
                for error in (getattr(errors, name)(*things), getattr(errors, name)(**dict(zip(fields, things)))):
                    for field, thing in zip(fields, things):
                        self.assertIs(getattr(error, field), thing)
                    self.assertEqual(sorted(vars(error)), sorted(fields))

    def test_exactly_the_fields(self):
        for kinds in FAMILIES.values():
            for name, fields in kinds.items():
                with self.assertRaises(TypeError):
                    getattr(errors, name)(*range(len(fields) + 1))
                with self.assertRaises(TypeError):
                    getattr(errors, name)(*range(len(fields) - 1))

    def test_raised_and_caught_by_every_base(self):
        for family, kinds in FAMILIES.items():
            for name, fields in kinds.items():
                for base in (getattr(errors, family), errors.SheetError, ValueError):
                    with self.assertRaises(base):
                        raise getattr(errors, name)(*fields)


if __name__ == "__main__":
    unittest.main()
