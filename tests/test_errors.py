"""[0.5]: the errors."""

import unittest

from everytick.errors import BadText, NotAllowed, TickError, TooMany


class ErrorsTest(unittest.TestCase):
    def test_all_are_tick_errors(self):
        self.assertTrue(issubclass(TickError, ValueError))
        for error in (BadText, NotAllowed, TooMany):
            self.assertTrue(issubclass(error, TickError))
            self.assertIsNot(error, TickError)

    def test_they_are_four_different_ones(self):
        for one in (BadText, NotAllowed, TooMany):
            for other in (BadText, NotAllowed, TooMany):
                self.assertEqual(issubclass(one, other), one is other)

    def test_bad_text_has_its_line(self):
        self.assertEqual(BadText(7).line, 7)
        self.assertEqual(BadText(line=1).line, 1)
        with self.assertRaises(TickError):
            raise BadText(3)

    def test_the_others_take_a_message(self):
        self.assertEqual(str(NotAllowed("no")), "no")
        self.assertEqual(str(TooMany("many")), "many")
        self.assertEqual(str(TickError("tick")), "tick")
