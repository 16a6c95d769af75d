"""The refusals, as the interface lists them."""

import unittest

from lampyard import errors

NINE = ("NoYard", "NoLamp", "Alone", "Tied", "Untied", "NoPress", "TooMany", "Shy", "NoNote")


class ErrorsTest(unittest.TestCase):
    def test_lamp_error_stands_under_value_error(self):
        self.assertEqual(errors.LampError.__bases__, (ValueError,))

    def test_each_stands_straight_under_lamp_error(self):
        for name in NINE:
            with self.subTest(name=name):
                kind = getattr(errors, name)
                self.assertEqual(kind.__name__, name)
                self.assertEqual(kind.__bases__, (errors.LampError,))

    def test_none_is_taken_for_another(self):
        for one in NINE:
            for other in NINE:
                with self.subTest(one=one, other=other):
                    taken = isinstance(getattr(errors, one)("why"), getattr(errors, other))
                    self.assertIs(taken, one == other)

    def test_each_is_raised_with_words_and_taken_as_any_refusal(self):
        for name in NINE:
            for general in (errors.LampError, ValueError):
                with self.subTest(name=name, general=general):
                    with self.assertRaises(general) as caught:
                        raise getattr(errors, name)("why")
                    self.assertEqual(str(caught.exception), "why")
