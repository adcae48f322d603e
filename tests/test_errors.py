"""The error classes: the interface's rotatesafe/errors.py."""

import unittest

from rotatesafe import errors

DIRECT = ["BadWorld", "BadSuspicion", "BadUse", "BadSecret", "BadStep", "BadKnot", "NothingDone", "BadNumber",
          "BadText"]
ATTRIBUTES = {"BadWorld": "part", "BadStep": "index", "BadText": "row"}


class ErrorClasses(unittest.TestCase):
    def test_rotate_error_is_a_direct_value_error(self):
        self.assertEqual(errors.RotateError.__bases__, (ValueError,))

    def test_direct_subclasses(self):
        for name in DIRECT:
            self.assertEqual(getattr(errors, name).__bases__, (errors.RotateError,), name)
        self.assertEqual([kind.__name__ for kind in errors.RotateError.__subclasses__()], DIRECT)

    def test_all_are_defined_in_this_file(self):
        for name in ["RotateError"] + DIRECT:
            self.assertEqual(getattr(errors, name).__module__, "rotatesafe.errors")

    def test_attributes_are_set_when_created(self):
        for name, attribute in ATTRIBUTES.items():
            kind = getattr(errors, name)
            self.assertEqual(vars(kind(4)), {attribute: 4})
            self.assertEqual(vars(kind(**{attribute: 7})), {attribute: 7})
            self.assertEqual(vars(kind()), {attribute: None})
            self.assertIsNone(getattr(kind(None), attribute))

    def test_errors_without_attributes(self):
        for name in DIRECT:
            if name not in ATTRIBUTES:
                self.assertEqual(vars(getattr(errors, name)("why")), {})

    def test_all_have_a_message(self):
        for name in ATTRIBUTES:
            self.assertTrue(str(getattr(errors, name)()))


if __name__ == "__main__":
    unittest.main()
