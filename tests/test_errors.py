"""Point 5: the errors."""

import unittest

from everyparcel import errors


class ErrorsTest(unittest.TestCase):
    def test_the_base_class_derives_from_value_error(self):
        self.assertEqual(errors.ParcelError.__bases__, (ValueError,))

    def test_each_error_stands_directly_under_the_base_class(self):
        for name in ["Invalid", "Unknown", "TooMany", "Contradiction", "BadManifest", "BadLine", "Late", "Refused"]:
            self.assertEqual(getattr(errors, name).__bases__, (errors.ParcelError,), name)

    def test_the_arguments_set_the_attributes(self):
        self.assertEqual(errors.Invalid("site").what, "site")
        self.assertEqual(errors.Unknown("a").name, "a")
        self.assertEqual(errors.Unknown(7).name, 7)
        many = errors.TooMany(500, 12)
        self.assertEqual((many.limit, many.tick), (500, 12))
        self.assertIsNone(errors.TooMany(500, None).tick)
        self.assertEqual(vars(errors.Contradiction()), {})
        self.assertEqual(errors.BadManifest("b(").text, "b(")
        self.assertEqual(errors.BadLine(3).line, 3)
        self.assertEqual(errors.Late(9).tick, 9)
        refused = errors.Refused(None, ((), ()))
        self.assertEqual((refused.days, refused.course), (None, ((), ())))

    def test_the_arguments_are_required(self):
        for call in [errors.Invalid, errors.Unknown, errors.TooMany, errors.BadManifest, errors.BadLine,
                     errors.Late, errors.Refused]:
            self.assertRaises(TypeError, call)
        self.assertRaises(TypeError, errors.TooMany, 1)
        self.assertRaises(TypeError, errors.Refused, 1)

    def test_an_error_can_be_caught_as_a_value_error(self):
        with self.assertRaises(ValueError):
            raise errors.Contradiction()


if __name__ == "__main__":
    unittest.main()
