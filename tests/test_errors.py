import unittest

from hearkenway import errors

NAMES = ["NoNet", "NoPlace", "NoTree", "NoWays", "NoDeed", "NoEvents", "NoKept", "TooMany", "NoText", "NoRow", "NoName"]


class ErrorsTest(unittest.TestCase):
    def test_the_top_one_is_right_under_value_error(self):
        self.assertEqual(errors.HearError.__bases__, (ValueError,))

    def test_each_is_right_under_the_top_one(self):
        for name in NAMES:
            with self.subTest(name):
                self.assertEqual(getattr(errors, name).__bases__, (errors.HearError,))

    def test_each_is_a_class_of_its_own(self):
        self.assertEqual(len({getattr(errors, name) for name in NAMES}), len(NAMES))

    def test_each_is_made_of_a_text(self):
        for name in ["HearError", *NAMES]:
            with self.subTest(name):
                self.assertEqual(str(getattr(errors, name)("why it is refused")), "why it is refused")
