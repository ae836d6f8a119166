"""room."""

import copy
import random
import unittest

from exploring import all_runs, small_program
from maybegone.bounds import MAX_PLAN
from maybegone.errors import GoneError, TooMany
from maybegone.fixes import Keeps
from maybegone.programs import program_error
from maybegone.rooms import room
from maybegone.runs import run, there_at
from maybegone.ways import each_inputs
from reference import random_cases, slow_run
from test_tables import slow_plan

ASK = ("ask", ("full", "r", "f"))
LOOSE = (("make", "r"), ("make", "x"), ("weak", "r", "f", "x"), ("drop", "x"))


def most_of(program, inputs, plan):
    return max(slow_run(program, inputs, plan)[1], default=0)


class Rooms(unittest.TestCase):

    def room(self, program, inputs=()):
        """The number that room tells, with its plan checked."""
        held = copy.deepcopy((program, inputs))
        found = room(program, inputs)
        self.assertEqual(found, room(program, inputs))
        self.assertEqual((program, inputs), held)
        self.assertIs(type(found), tuple)
        most, plan = found
        self.assertIs(type(most), int)
        self.assertTrue(slow_plan(plan))
        self.assertEqual(run(program, inputs, plan)[:2], run(program, inputs)[:2])
        self.assertEqual(most, max(there_at(program, inputs, plan), default=0))
        self.assertEqual(most, most_of(program, inputs, plan))
        return most

    def test_no_statements_and_no_cells(self):
        self.assertEqual(room((0, ()), ()), (0, ()))
        self.assertEqual(room((2, ()), (0, 1)), (0, ()))
        self.assertEqual(room((0, (("say", "a"), ("drop", "x"))), ()), (0, ()))

    def test_cells_that_are_reached(self):
        self.assertEqual(self.room((0, (("make", "x"), ("make", "y")))), 2)
        self.assertEqual(self.room((0, (("make", "x"), ("keep", "x"), ("make", "x"), ("keep", "x"), ("make", "x")))), 3)
        self.assertEqual(self.room((0, (("make", "x"), ("make", "y"), ("hold", "y", "f", "x"), ("drop", "x"), ("make", "x")))), 3)

    def test_cells_that_nothing_asks_about(self):
        # Behind a make statement the cell for which the name stood ahead of it is there still.
        self.assertEqual(self.room((0, (("make", "x"),) * 5)), 2)
        self.assertEqual(self.room((0, (("make", "x"), ("drop", "x")) * 5)), 1)

    def test_cells_that_must_be_there(self):
        # As long as cell 1 is asked about, it has to be there.
        program = (0, LOOSE + (("make", "y"), ("drop", "y"), ("make", "y"), ("drop", "y"), ASK))
        self.assertEqual(self.room(program), 3)
        self.assertEqual(self.room((0, program[1][:-1])), 2)
        self.assertEqual(self.room((0, LOOSE + (ASK, ("make", "y"), ("drop", "y"), ("make", "y"), ("drop", "y")))), 2)

    def test_answers_that_do_not_matter(self):
        # It can tell that cell 1 is cleared, but it says nothing of it.
        program = (0, LOOSE + (("make", "y"), ("if", ("full", "r", "f"), (), ())))
        self.assertEqual(self.room(program), 2)
        program = (0, LOOSE + (("make", "y"), ("if", ("full", "r", "f"), (), (("say", "b"),))))
        self.assertEqual(self.room(program), 3)

    def test_another_way_that_takes_less_room(self):
        # Only if cell 1 is cleared, more cells are made: it is better to leave it.
        inner = (("make", "a"), ("make", "b"), ("make", "c"))
        self.assertEqual(self.room((0, LOOSE + (("if", ("full", "r", "f"), (), inner),))), 2)
        self.assertEqual(self.room((0, LOOSE + (("if", ("full", "r", "f"), inner, ()),))), 2)
        self.assertEqual(self.room((0, LOOSE + (("if", ("full", "r", "f"), inner, inner),))), 4)

    def test_inputs(self):
        program = (1, LOOSE + (("make", "y"), ("if", ("given", 0), (ASK,), ())))
        self.assertEqual([self.room(program, inputs) for inputs in each_inputs(program)], [2, 3])

    def test_stops(self):
        program = (0, LOOSE + (("make", "y"), ("take", "x", "r", "f"), ("keep", "x"), ("make", "z"), ("make", "q")))
        self.assertEqual(self.room(program), 5)
        self.assertEqual(self.room((0, (("make", "x"), ("make", "y"), ("keep", "z"), ("make", "z")))), 2)

    def test_too_many(self):
        asks = LOOSE + (("repeat", 12, (ASK,) * 5),) + (ASK,) * 4
        program = (1, (("if", ("given", 0), asks, asks[:-1]),))
        self.assertIsNone(program_error(program))
        with self.assertRaises(TooMany) as caught:
            room(program, (1,))
        self.assertIsInstance(caught.exception, GoneError)
        # On other inputs the number of records does not matter.
        self.assertEqual(self.room(program, (0,)), 2)
        quiet = (("take", "y", "r", "f"), ("drop", "y")) * 8
        self.assertRaises(TooMany, room, (0, LOOSE + (("repeat", 8, quiet),)), ())

    def test_all_plans_of_small_programs(self):
        tried = fewer = 0
        source = random.Random(81)
        for _ in range(350):
            program = small_program(source)
            for inputs in each_inputs(program):
                runs = all_runs(program, inputs, (), 600)
                if runs is not None:
                    plain = run(program, inputs)[:2]
                    least = min(max(row[3], default=0) for row in runs.values() if row[:2] == plain)
                    self.assertEqual(self.room(program, inputs), least, (program, inputs))
                    tried += 1
                    fewer += least < max(there_at(program, inputs), default=0)
        self.assertGreater(tried, 150)
        self.assertGreater(fewer, 30)

    def test_random_plans_take_no_less_room(self):
        for program, inputs, plan, _ in random_cases(82, 300):
            try:
                most = self.room(program, inputs)
            except TooMany:
                continue
            if run(program, inputs, plan)[:2] == run(program, inputs)[:2]:
                self.assertLessEqual(most, most_of(program, inputs, plan))

    def test_long_runs(self):
        program = (0, LOOSE + (("repeat", 12, (("make", "y"),) * 15), ASK))
        self.assertIsNone(program_error(program))
        self.assertEqual(self.room(program), 4)
        kept = Keeps().applied(program, (1,))
        self.assertEqual(self.room(kept), 4)
        kept = Keeps().applied(program, tuple(range(5, 20)))
        self.assertEqual(self.room(kept), 182)
        self.assertLess(len(room(program, ())[1]), MAX_PLAN)


if __name__ == "__main__":
    unittest.main()
