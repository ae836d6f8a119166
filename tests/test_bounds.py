"""The numbers in maybegone.bounds."""

import unittest

from maybegone import bounds

NUMBERS = {
    "MAX_NAME": 8, "MAX_WORD": 8, "MAX_GIVENS": 3, "MAX_TIMES": 12, "MAX_NEST": 4, "MAX_PLACES": 30,
    "MAX_WEIGHT": 200, "MAX_WISHES": 4, "MAX_PLAN": 400, "MAX_QUESTIONS": 200, "MAX_WAYS": 64,
    "MAX_ANSWERS": 400, "MAX_FIXES": 3, "MAX_FIX_PLACES": 6, "MAX_EDITS": 60, "BATCH": 20,
}


class Bounds(unittest.TestCase):

    def test_each_number(self):
        for name, number in NUMBERS.items():
            with self.subTest(name):
                self.assertIs(type(getattr(bounds, name)), int)
                self.assertEqual(getattr(bounds, name), number)


if __name__ == "__main__":
    unittest.main()
