"""The errors of the interface."""

from helpers import Case
from sealgrove import errors


class Errors(Case):
    def test_all_errors_are_seal_errors(self):
        self.assertIs(errors.SealError.__bases__[0], ValueError)
        for name in ("OutOfRange", "Malformed", "Refused", "UsedUp", "PowerLost", "NotThere", "BadLine"):
            with self.subTest(name=name):
                self.assertEqual(getattr(errors, name).__bases__, (errors.SealError,))

    def test_errors_can_be_raised_with_a_text(self):
        for name in ("SealError", "OutOfRange", "Malformed", "Refused", "UsedUp", "PowerLost", "NotThere"):
            with self.subTest(name=name), self.assertRaises(errors.SealError) as caught:
                raise getattr(errors, name)("why")
            self.assertEqual(str(caught.exception), "why")

    def test_a_bad_line_keeps_its_number(self):
        for line in (1, 2, 4000, 10 ** 5000):
            with self.assertRaises(errors.SealError) as caught:
                raise errors.BadLine(line)
            self.assertEqual(caught.exception.line, line)
