"""What the interface lists: each function in its file, with its arguments."""

import inspect
import unittest

from maybegone import programs, runs

FUNCTIONS = (
    (programs, "program_error", "(value)"),
    (programs, "each_statement", "(program)"),
    (programs, "statement_at", "(program, place)"),
    (programs, "weight", "(program)"),
    (programs, "wishes_of", "(program)"),
    (programs, "make_places", "(program)"),
    (programs, "weak_places", "(program)"),
    (runs, "run", "(program, inputs, plan=(), *, paused=())"),
    (runs, "there_at", "(program, inputs, plan=(), *, paused=())"),
)


class Interface(unittest.TestCase):

    def test_each_function(self):
        for module, name, arguments in FUNCTIONS:
            with self.subTest(name):
                function = getattr(module, name)
                self.assertTrue(inspect.isfunction(function))
                self.assertEqual(function.__module__, module.__name__)
                self.assertEqual(str(inspect.signature(function)), arguments)

    def test_paused_is_passed_by_keyword(self):
        for function in (runs.run, runs.there_at):
            self.assertRaises(TypeError, function, (0, ()), (), (), ())


if __name__ == "__main__":
    unittest.main()
