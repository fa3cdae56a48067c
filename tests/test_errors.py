import unittest

from spoolbox import errors

NAMES = """
    OutOfRange LooseNumber Truncated BadStuffing BadKind BadStamp BadNumber BadTrack BadOrdinal BadTime
    BadSpan BadKey BadSize ShortBody BadCheck NotAPresentation BadChange BadBody BadStart CutOff EmptyPiece
    OtherStamp WrongNumber WrongOrder WrongFields NoTrack TooManyUnits WrongOrdinal WrongTime WrongKey
    WrongEntry WrongCount WrongSum MissingUnits Behind NoEnd NotAlike HasSkip TooLong NoHead TooManyTags
""".split()

INTEGERS = (0, 1, 7, -1, -(10 ** 30), 2 ** 40, 10 ** 30, 2 ** 20000)


class TestErrors(unittest.TestCase):
    def test_there_are_41_classes_below_the_base(self):
        self.assertEqual(len(set(NAMES)), 41)
        for name in NAMES:
            self.assertEqual(getattr(errors, name).__bases__, (errors.SpoolboxError,), name)
        self.assertEqual(errors.SpoolboxError.__bases__, (ValueError,))

    def test_each_class_is_defined_in_this_file_under_its_name(self):
        for name in ["SpoolboxError", *NAMES]:
            found = getattr(errors, name)
            self.assertEqual((found.__module__, found.__name__), ("spoolbox.errors", name))

    def test_the_file_defines_nothing_else(self):
        found = [name for name in vars(errors) if not name.startswith("_")]
        self.assertEqual(sorted(found), sorted(["SpoolboxError", *NAMES]))

    def test_the_integer_is_the_attribute_at(self):
        for name in ["SpoolboxError", *NAMES]:
            for at in INTEGERS:
                self.assertEqual(getattr(errors, name)(at).at, at, name)

    def test_each_error_is_of_its_own_class_only(self):
        for name in NAMES:
            error = getattr(errors, name)(5)
            self.assertIsInstance(error, errors.SpoolboxError)
            self.assertIsInstance(error, ValueError)
            found = [other for other in NAMES if isinstance(error, getattr(errors, other))]
            self.assertEqual(found, [name])

    def test_an_error_takes_exactly_one_integer(self):
        for name in ["SpoolboxError", *NAMES]:
            with self.assertRaises(TypeError):
                getattr(errors, name)()
            with self.assertRaises(TypeError):
                getattr(errors, name)(1, 2)

    def test_a_raised_error_keeps_its_integer(self):
        for name in NAMES:
            with self.assertRaises(errors.SpoolboxError) as caught:
                raise getattr(errors, name)(-3)
            self.assertEqual(caught.exception.at, -3)


if __name__ == "__main__":
    unittest.main()
