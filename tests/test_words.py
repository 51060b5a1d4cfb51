"""[2]: integers and ticks."""

import unittest

from crumbjar.errors import BadTick
from crumbjar.words import LAST_TICK, is_integer, is_tick, need_tick
from kinds import OTHERS


class WordsTest(unittest.TestCase):
    def test_last_tick_is_the_last_second_of_9999(self):
        self.assertEqual(LAST_TICK, 253402300799)
        self.assertEqual((LAST_TICK + 1) % 86400, 0)
        self.assertIs(type(LAST_TICK), int)

    def test_integers(self):
        for value in (0, 1, -1, 5, LAST_TICK, 10 ** 900, -10 ** 900):
            self.assertIs(is_integer(value), True)

    def test_other_kinds_are_no_integers(self):
        for value in OTHERS:
            if type(value) is not int:
                self.assertIs(is_integer(value), False, value)
                self.assertIs(is_tick(value), False, value)

    def test_ticks(self):
        for value in (0, 1, 86400, LAST_TICK - 1, LAST_TICK):
            self.assertIs(is_tick(value), True)
            self.assertIsNone(need_tick(value))

    def test_integers_that_are_no_ticks(self):
        for value in (-1, LAST_TICK + 1, 10 ** 900, -10 ** 900):
            self.assertIs(is_tick(value), False)

    def test_bad_tick_has_what_was_given(self):
        for value in (-1, LAST_TICK + 1, True, False, None, "5", 5.0, (), [5], {}):
            with self.assertRaises(BadTick) as caught:
                need_tick(value)
            self.assertIs(caught.exception.given, value)

    def test_by_name(self):
        self.assertIs(is_integer(value=3), True)
        self.assertIs(is_tick(value=-3), False)
        self.assertIsNone(need_tick(value=3))


if __name__ == "__main__":
    unittest.main()
