import unittest

from fairmasks import errors
from fairmasks.errors import MaskError
from samples import strangers

FIELDS = {
    "BadSizes": (), "NoPattern": (), "NoContent": (), "NoBox": (), "NoNumber": (), "BadHabit": ("part",),
    "NotFair": (), "NoShares": (), "TooMuch": ("content",), "NoChances": (), "NeverShown": (),
    "OtherSizes": (), "NoShare": (), "NoRules": (), "NoColumns": (), "BadProgram": ("part",),
    "NoThrows": (), "TooMany": ("most",), "BadAsker": ("part",), "NotBlind": (), "NoList": (),
    "NoBet": (), "NoRing": (), "NoShowing": (), "NoTree": (), "NoPair": (), "NoCutting": (),
    "NoQuestion": (), "NoWeights": (), "NoRows": (), "NoName": (), "NotTold": (), "NothingDone": (),
    "NoPolicy": (), "NotDue": (), "BadLog": ("index",), "BadText": ("line",),
}


def error_classes():
    return [(getattr(errors, name), fields) for name, fields in FIELDS.items()]


class Errors(unittest.TestCase):
    def test_each_listed_error_is_defined_in_the_file(self):
        for name in FIELDS:
            with self.subTest(name):
                self.assertEqual(getattr(errors, name).__module__, "fairmasks.errors")
                self.assertEqual(getattr(errors, name).__name__, name)

    def test_there_are_no_other_errors(self):
        found = [name for name, thing in vars(errors).items() if isinstance(thing, type)]
        self.assertEqual(sorted(found), sorted(list(FIELDS) + ["MaskError"]))

    def test_each_derives_directly_from_the_one(self):
        self.assertEqual(MaskError.__bases__, (ValueError,))
        for made, _ in error_classes():
            with self.subTest(made.__name__):
                self.assertEqual(made.__bases__, (MaskError,))

    def test_each_is_made_with_just_its_fields(self):
        for made, fields in error_classes():
            with self.subTest(made.__name__):
                error = made(*["x" for _ in fields])
                self.assertEqual(sorted(vars(error)), sorted(fields))
                with self.assertRaises(TypeError):
                    made(*["x" for _ in fields], "y")
                if fields:
                    with self.assertRaises(TypeError):
                        made()

    def test_fields_are_kept_as_passed(self):
        for made, fields in error_classes():
            for field in fields:
                for thing in strangers() + [(0, 0), 0, "sizes"]:
                    with self.subTest(made.__name__):
                        self.assertIs(getattr(made(thing), field), thing)

    def test_an_error_of_any_field_can_be_written(self):
        for made, fields in error_classes():
            for thing in strangers() + [10 ** 5000]:
                with self.subTest(made.__name__):
                    self.assertNotEqual(str(made(*[thing for _ in fields])), "")

    def test_each_can_be_raised_and_caught(self):
        for made, fields in error_classes():
            with self.subTest(made.__name__):
                for caught in (made, MaskError, ValueError):
                    with self.assertRaises(caught):
                        raise made(*[0 for _ in fields])


if __name__ == "__main__":
    unittest.main()
