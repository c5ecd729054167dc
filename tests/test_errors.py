"""[3]: the classes of the refusals."""

import unittest

from pairsfar import errors
from tests.helper import KINDS, FarCase


class ErrorsTest(FarCase):
    def test_far_error_stands_under_value_error(self):
        self.assertTrue(issubclass(errors.FarError, ValueError))
        self.assertEqual(str(errors.FarError("a text")), "a text")

    def test_each_class_stands_under_far_error_and_no_other(self):
        for name in KINDS:
            kind = getattr(errors, name)
            self.assertEqual(kind.__name__, name)
            self.assertTrue(issubclass(kind, errors.FarError))
            above = [other for other in KINDS if other != name and issubclass(kind, getattr(errors, other))]
            self.assertEqual(above, [])
            self.assertFalse(issubclass(errors.FarError, kind))

    def test_str_tells_the_text(self):
        for name in KINDS:
            for text in ("", "why", "two\nlines", "it's \"quoted\" \\"):
                error = getattr(errors, name)(text)
                self.assertEqual(str(error), text)
                self.of_one_kind(getattr(errors, name), error)


if __name__ == "__main__":
    unittest.main()
