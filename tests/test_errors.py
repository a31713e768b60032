import unittest

from fewboxes import errors
from fewboxes.errors import FewError, NoDeed, NoName, NoText, NotHeld, TooBig, TooFew, Twice

KINDS = [NoName, Twice, TooBig, NoText, TooFew, NoDeed, NotHeld]


class ErrorsTest(unittest.TestCase):
    def test_bases(self):
        self.assertEqual(FewError.__bases__, (ValueError,))
        for kind in KINDS:
            self.assertEqual(kind.__bases__, (FewError,))

    def test_names(self):
        for kind in KINDS + [FewError]:
            self.assertIs(getattr(errors, kind.__name__), kind)
        self.assertEqual(len(set(KINDS)), 7)

    def test_taken_by_the_right_classes_alone(self):
        for kind in KINDS:
            for wide in (FewError, ValueError, kind):
                with self.assertRaises(wide):
                    raise kind("some words")
            for other in KINDS:
                if other != kind:
                    self.assertNotIsInstance(kind("some words"), other)


if __name__ == "__main__":
    unittest.main()
