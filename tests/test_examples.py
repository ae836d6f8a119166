"""The examples that the document shows, with just the results that are shown."""

import unittest

from maybegone.programs import each_statement, make_places, program_error, weak_places, weight, wishes_of
from maybegone.runs import run, there_at


class Examples(unittest.TestCase):

    def test_program_error(self):
        self.assertEqual(
            [program_error((1, (("make", "x"), ("if", ("given", 0), (("drop", "x"),), ())))), program_error((1, (("if", ("given", 1), (), ()),))), program_error((0, (("repeat", 2, (("say", "A"),)),))), program_error([0, ()])],
            [None, (0, 'statement'), (1, 'statement'), (None, 'program')])

    def test_statements_and_places(self):
        program = (0, (("repeat", 3, (("make", "x"), ("weak", "x", "f", "x"))), ("if", ("set", "x"), (("wish", "x", "bye"),), (("make", "y"),))))
        self.assertEqual(
            [[row[:2] for row in each_statement(program)], weight(program), wishes_of(program), make_places(program), weak_places(program)],
            [[(0, 0), (1, 1), (2, 1), (3, 0), (4, 1), (5, 1)], 10, ('bye',), (1, 5), (2,)])

    def test_run(self):
        program = (0, (("make", "x"), ("make", "y"), ("weak", "x", "f", "y"), ("drop", "y"), ("ask", ("full", "x", "f")), ("take", "y", "x", "f"), ("ask", ("set", "y"))))
        self.assertEqual(
            [run(program, ()), run(program, (), ((3, 1), (5, 1))), run(program, (), ((4, 1),)), run(program, (), ((4, 1),), paused=(4,))],
            [((('yes',), ('yes',)), None, (0, 0), ()), ((('yes',), ('no',)), None, (0, 1), ((5, 1),)), ((('no',), ('no',)), None, (1, 1), ((4, 1),)), ((('yes',), ('yes',)), None, (0, 0), ())])

    def test_run_with_a_wish(self):
        program = (0, (("make", "x"), ("make", "y"), ("wish", "y", "bye"), ("hold", "y", "f", "x"), ("drop", "x"), ("drop", "y"), ("ask", ("wished", "bye"))))
        self.assertEqual(
            [run(program, (), ((5, 0),)), run(program, (), ((6, 0),))],
            [((('no',),), None, (0,), ()), ((('yes',),), None, (1,), ((6, 0), (6, 1)))])

    def test_there_at(self):
        program = (0, (("make", "x"), ("make", "x"), ("make", "x")))
        self.assertEqual(
            [there_at(program, ()), there_at(program, (), ((2, 0),))],
            [(1, 2, 3), (1, 2, 2)])


if __name__ == "__main__":
    unittest.main()
