"""What holds for run and there_at on all programs, tried on many of them."""

import copy
import random
import unittest

from maybegone.programs import each_statement, make_places, program_error, weak_places, weight, wishes_of
from maybegone.runs import run, there_at
from reference import random_cases, random_plan, random_program, size, slow_run


def plain_parts(value):
    """Whether the value is made of Python's own tuples, texts, integers and None."""
    if type(value) is tuple:
        return all(plain_parts(part) for part in value)
    return value is None or type(value) in (int, str)


class Reference(unittest.TestCase):

    def test_the_same_as_the_reference(self):
        ends = {}
        clearing = 0
        noticing = 0
        for program, inputs, plan, paused in random_cases(1, 4000):
            result, there = slow_run(program, inputs, plan, paused)
            self.assertEqual(run(program, inputs, plan, paused=paused), result, (program, inputs, plan, paused))
            self.assertEqual(there_at(program, inputs, plan, paused=paused), there, (program, inputs, plan, paused))
            ends[result[1] and result[1][0]] = ends.get(result[1] and result[1][0], 0) + 1
            clearing += bool(result[3])
            noticing += 1 in result[2]
        # The cases are worth something: runs of each kind are among them.
        self.assertGreater(ends[None], 400)
        self.assertGreater(ends["name"], 400)
        self.assertGreater(clearing, 400)
        self.assertGreater(noticing, 200)


class SameCalls(unittest.TestCase):

    def test_the_same_call_twice(self):
        for program, inputs, plan, paused in random_cases(2, 300):
            self.assertEqual(run(program, inputs, plan, paused=paused), run(program, inputs, plan, paused=paused))
            self.assertEqual(there_at(program, inputs, plan, paused=paused), there_at(program, inputs, plan, paused=paused))

    def test_no_argument_is_changed(self):
        for case in random_cases(3, 300):
            held = copy.deepcopy(case)
            program, inputs, plan, paused = case
            run(program, inputs, plan, paused=paused)
            there_at(program, inputs, plan, paused=paused)
            list(each_statement(program))
            program_error(program)
            self.assertEqual(case, held)

    def test_calls_do_not_mix(self):
        cases = list(random_cases(4, 40))
        first = [run(p, i, plan, paused=paused) for p, i, plan, paused in cases]
        again = [run(p, i, plan, paused=paused) for p, i, plan, paused in reversed(cases)]
        self.assertEqual(first, again[::-1])


class Results(unittest.TestCase):

    def test_kinds(self):
        for program, inputs, plan, paused in random_cases(5, 300):
            result = run(program, inputs, plan, paused=paused)
            self.assertTrue(plain_parts(result))
            self.assertEqual(len(result), 4)
            self.assertTrue(plain_parts(there_at(program, inputs, plan, paused=paused)))
            self.assertEqual(list(result[3]), sorted(set(result[3])))

    def test_cleared_pairs_are_a_plan_for_the_same_run(self):
        for program, inputs, plan, paused in random_cases(6, 600):
            result = run(program, inputs, plan, paused=paused)
            self.assertEqual(run(program, inputs, result[3], paused=paused), result)
            # And then nothing has to be paused.
            self.assertEqual(run(program, inputs, result[3]), result)


class Records(unittest.TestCase):

    def test_runs_with_the_same_record(self):
        source = random.Random(7)
        several = 0
        for _ in range(250):
            program = random_program(source)
            inputs = tuple(source.randrange(2) for _ in range(program[0]))
            found = {}
            plans = [random_plan(source, source.choice((1, 3, 12, 60, 200))) for _ in range(20)]
            for plan in [()] + plans:
                answers, end, record, _ = run(program, inputs, plan)
                went = (answers, end, len(there_at(program, inputs, plan)))
                self.assertEqual(found.setdefault(record, went), went)
            for one in found:
                for other in found:
                    if one != other:
                        self.assertNotEqual(other[:len(one)], one)
            several += len(found) > 1
        self.assertGreater(several, 50)


class Programs(unittest.TestCase):

    def test_statements_of_random_programs(self):
        for program, _, _, _ in random_cases(8, 200):
            rows = list(each_statement(program))
            self.assertEqual([row[0] for row in rows], list(range(size(program[1]))))
            self.assertEqual(make_places(program), tuple(p for p, _, s in rows if s[0] == "make"))
            self.assertEqual(weak_places(program), tuple(p for p, _, s in rows if s[0] == "weak"))
            self.assertEqual(wishes_of(program), tuple(sorted({s[2] for _, _, s in rows if s[0] == "wish"})))
            error = program_error(program)
            if len(rows) > 30:
                self.assertEqual(error, (None, "places"))
            elif weight(program) > 200:
                self.assertEqual(error, (None, "weight"))
            else:
                self.assertIsNone(error)


class BeyondTheBounds(unittest.TestCase):

    def test_programs_that_fixes_have_changed(self):
        kept = (("make", "x"), ("keep", "x"), ("keep", "x"))
        program = (0, (("repeat", 12, kept * 16), ("ask", ("set", "x"))))
        self.assertEqual(program_error(program), (None, "places"))
        answers, end, record, cleared = run(program, (), ((40, 0), (500, 3)))
        self.assertEqual((answers, end, record, cleared), ((("yes",),), None, (), ()))
        there = there_at(program, ())
        self.assertEqual(len(there), 1 + 12 * 48 + 1)
        self.assertEqual(there[-1], 192)


if __name__ == "__main__":
    unittest.main()
