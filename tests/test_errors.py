"""The classes of errors (interface: guanaco/errors.py)."""

import unittest

from guanaco import errors


class ErrorClasses(unittest.TestCase):
    def test_base_classes(self):
        self.assertEqual(errors.GuanacoError.__bases__, (ValueError,))
        for name in ("LimitError", "TokenError", "ParseError", "CheckError", "CodeError", "LinkError"):
            self.assertEqual(getattr(errors, name).__bases__, (errors.GuanacoError,), name)
        for name in ("ScopeError", "Mismatch", "Uncovered", "Unused", "SignatureError"):
            self.assertEqual(getattr(errors, name).__bases__, (errors.CheckError,), name)

    def test_fields(self):
        self.assertEqual(errors.TokenError(5).at, 5)
        self.assertEqual(errors.ParseError(7).at, 7)
        self.assertEqual(errors.CheckError(2).number, 2)
        for error in (errors.ScopeError, errors.Mismatch, errors.Unused, errors.SignatureError):
            self.assertEqual(error(3).number, 3)
        uncovered = errors.Uncovered(4, ("any",))
        self.assertEqual((uncovered.number, uncovered.missing), (4, ("any",)))
        self.assertEqual(errors.LinkError("cycle").reason, "cycle")

    def test_raised_without_fields(self):
        for error in (errors.LimitError, errors.CodeError):
            with self.assertRaises(errors.GuanacoError):
                raise error("text")


if __name__ == "__main__":
    unittest.main()
