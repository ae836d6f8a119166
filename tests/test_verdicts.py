"""noticed and alike."""

import copy
import random
import unittest

from exploring import all_runs, small_program
from maybegone.errors import GoneError, TooMany
from maybegone.programs import program_error
from maybegone.runs import run
from maybegone.verdicts import alike, noticed
from maybegone.ways import each_inputs, way_of
from reference import size

ASK = ("ask", ("full", "r", "f"))
LOOSE = (("make", "r"), ("make", "x"), ("weak", "r", "f", "x"), ("drop", "x"))
# 65 records, and just 64.
MANY = LOOSE + (("repeat", 12, (ASK,) * 5),) + (ASK,) * 4
ENOUGH = MANY[:-1]


def given(yes, no=()):
    """A program that executes one of the blocks, as the only given says."""
    return (1, (("if", ("given", 0), yes, no),))


class Noticed(unittest.TestCase):

    def test_sure_programs(self):
        for program in ((0, ()), (0, LOOSE), (0, LOOSE[:3] + (ASK,)), (0, LOOSE + (("take", "x", "r", "f"), ("drop", "x"), ("say", "a"))),
                        (2, (("say", "a"), ("ask", ("given", 1)))), (0, LOOSE[:3] + (("keep", "x"), ("drop", "x"), ASK))):
            self.assertIsNone(noticed(program))

    def test_a_question_that_makes_no_difference(self):
        self.assertIsNone(noticed((0, LOOSE + (("if", ("full", "r", "f"), (("say", "a"),), (("say", "a"),)),))))

    def test_paused(self):
        program = (0, LOOSE + (("say", "a"), ASK))
        self.assertEqual(
            [noticed(program, paused=p) for p in ((), (5,), (4,), (0, 1, 2, 3, 4), (4, 5))],
            [((), ((5, 1),)), ((), ((4, 1),)), ((), ((5, 1),)), ((), ((5, 1),)), None])

    def test_on_some_inputs_only(self):
        for yes, no, inputs in ((LOOSE + (ASK,), (), (1,)), ((), LOOSE + (ASK,), (0,))):
            found = noticed(given(yes, no))
            self.assertEqual(found[0], inputs)
            self.assertEqual([cell for _, cell in found[1]], [1])

    def test_several_cells_at_once(self):
        # It says "b" only if all three are cleared.
        rows = (("make", "r"),)
        for field in ("f", "g", "h"):
            rows += (("make", "x"), ("weak", "r", field, "x"))
        rows += (("drop", "x"),)
        inner = (("say", "b"),)
        for field in ("f", "g", "h"):
            inner = (("if", ("full", "r", field), (), inner),)
        found = noticed((0, rows + inner))
        self.assertEqual(found[0], ())
        self.assertEqual([cell for _, cell in found[1]], [3, 2, 1])
        self.assertEqual(run((0, rows + inner), (), found[1])[0], (("said", "b"),))

    def test_a_cell_with_those_that_come_to_it(self):
        rows = LOOSE[:3] + (("make", "y"), ("hold", "y", "g", "x"), ("name", "x", "y"), ("make", "y"), ("hold", "y", "g", "x"), ("drop", "x"), ("drop", "y"), ASK)
        self.assertEqual(noticed((0, rows)), ((), ((10, 1), (10, 2), (10, 3))))

    def test_as_few_as_possible(self):
        # What is asked first takes two cells; on the inputs (1,) one is enough.
        two = LOOSE[:3] + (("make", "y"), ("hold", "y", "f", "x"), ("drop", "y"), ("drop", "x"), ASK)
        for yes, no in ((LOOSE + (ASK,), two), (two, LOOSE + (ASK,))):
            found = noticed(given(yes, no))
            self.assertEqual(len(found[1]), 1)
            self.assertEqual(found[0], (1,) if yes is not two else (0,))
        rows = two + (("make", "y"), ("weak", "r", "h", "y"), ("drop", "y"), ("ask", ("full", "r", "h")))
        self.assertEqual(noticed((0, rows)), ((), ((11, 3),)))

    def test_the_place_of_a_stop_counts(self):
        rows = LOOSE + (("take", "x", "r", "f"), ("name", "y", "x"), ("name", "y", "z"))
        self.assertEqual(noticed((0, rows)), ((), ((4, 1),)))
        rows = LOOSE + (("take", "x", "r", "f"), ("if", ("set", "x"), (("name", "y", "z"),), ()), ("name", "y", "z"))
        self.assertEqual(noticed((0, rows)), ((), ((4, 1),)))

    def test_too_many(self):
        self.assertIsNotNone(noticed((0, ENOUGH)))
        for program in ((0, MANY), given(MANY, ()), given((), MANY), given(LOOSE + (ASK,), MANY), given(MANY, LOOSE + (ASK,))):
            self.assertIsNone(program_error(program))
            with self.assertRaises(TooMany) as caught:
                noticed(program)
            self.assertIsInstance(caught.exception, GoneError)

    def test_too_many_although_all_outcomes_are_the_same(self):
        quiet = ("take", "y", "r", "f"), ("drop", "y")
        self.assertRaises(TooMany, noticed, (0, LOOSE + (("repeat", 8, quiet * 8),)))
        self.assertIsNone(noticed((0, LOOSE + (("repeat", 9, quiet * 7),))))

    def test_paused_places_make_fewer(self):
        self.assertRaises(TooMany, noticed, (0, MANY), paused=(0, 1, 2))
        self.assertEqual(noticed((0, MANY), paused=tuple(range(4, size(MANY)))), None)
        self.assertIsNotNone(noticed((0, MANY), paused=(5,)))


def same_end(end):
    return None if end is None else end[0]


class Alike(unittest.TestCase):

    def differ(self, one, other):
        """Checks that the programs differ, and the run that tells it."""
        which, inputs, plan = alike(one, other)
        programs = (one, other)
        answers, end = run(programs[which], inputs, plan)[:2]
        runs = all_runs(programs[1 - which], inputs)
        self.assertNotIn((answers, same_end(end)), {(row[0], same_end(row[1])) for row in runs.values()})
        self.assertEqual(plan, way_of(programs[which], inputs, plan)[3])
        return which, inputs, plan

    def test_the_same(self):
        for program in ((0, ()), (0, LOOSE + (ASK,)), (3, (("ask", ("given", 2)),))):
            self.assertIsNone(alike(program, program))
        self.assertIsNone(alike((0, (("say", "a"),)), (0, (("repeat", 1, (("say", "a"),)), ("make", "x")))))

    def test_other_answers(self):
        self.assertEqual(self.differ((0, (("say", "a"),)), (0, (("say", "b"),))), (0, (), ()))
        self.assertEqual(self.differ((0, (("say", "a"),)), (0, ())), (0, (), ()))
        self.assertEqual(self.differ((0, ()), (0, (("say", "a"),)))[1:], ((), ()))

    def test_more_outcomes_in_one_of_them(self):
        strong = tuple(("hold",) + row[1:] if row[0] == "weak" else row for row in LOOSE)
        self.assertEqual(self.differ((0, LOOSE + (ASK,)), (0, strong + (ASK,))), (0, (), ((4, 1),)))
        self.assertEqual(self.differ((0, strong + (ASK,)), (0, LOOSE + (ASK,))), (1, (), ((4, 1),)))

    def test_the_same_outcomes_by_other_records(self):
        self.assertIsNone(alike((0, LOOSE + (ASK,)), (0, LOOSE + (("take", "y", "r", "f"), ("ask", ("set", "y"))))))
        self.assertIsNone(alike((0, (("ask", ("set", "x")),)), (0, LOOSE + (("ask", ("set", "x")),))))

    def test_on_some_inputs_only(self):
        one, other = given((("say", "a"),), (("say", "b"),)), given((("say", "c"),), (("say", "b"),))
        self.assertEqual(self.differ(one, other), (0, (1,), ()))
        self.assertEqual(self.differ(given((), LOOSE + (ASK,)), given((), LOOSE + (("ask", ("set", "r")),))), (0, (0,), ((5, 1),)))

    def test_the_place_of_a_stop_does_not_count(self):
        self.assertIsNone(alike((0, (("keep", "x"),)), (0, (("make", "y"), ("keep", "x")))))
        self.assertIsNone(alike((0, LOOSE + (("take", "x", "r", "f"), ("keep", "x"))), (0, LOOSE + (("take", "x", "r", "f"), ("keep", "x"), ("keep", "x")))))
        # The first program has two outcomes that differ in the place of the stop alone.
        one = LOOSE + (("take", "x", "r", "f"), ("name", "y", "x"), ("name", "y", "z"))
        self.assertIsNone(alike((0, one), (0, (("keep", "x"),))))
        self.assertIsNotNone(noticed((0, one)))

    def test_the_word_of_a_stop_counts(self):
        self.differ((0, (("keep", "x"),)), (0, ()))
        self.differ((0, ()), (0, (("keep", "x"),)))
        asks = (("repeat", 12, (("if", ("full", "r", "f"), (), ()),) * 15), ("repeat", 12, (("if", ("full", "r", "f"), (), ()),)))
        long = (0, LOOSE[:3] + asks + (ASK,) * 9)
        self.assertEqual(run(long, ())[1][0], "long")
        name = (0, (("make", "x"),) + (("ask", ("set", "x")),) * 8 + (("keep", "y"),))
        self.assertEqual((run(long, ())[0], run(name, ())[0], run(name, ())[1][0]), ((("yes",),) * 8, (("yes",),) * 8, "name"))
        self.assertIsNotNone(alike(long, name))
        self.assertIsNone(alike(long, long))

    def test_too_many(self):
        self.assertIsNone(alike((0, ENOUGH), (0, ENOUGH)))
        self.assertIsNotNone(alike((0, ENOUGH), (0, ())))
        for program in ((0, MANY), given(MANY, ()), given((), MANY)):
            short = (program[0], (("say", "b"),))
            for one, other in ((program, program), (program, short), (short, program)):
                self.assertRaises(TooMany, alike, one, other)


class AllPlans(unittest.TestCase):

    def programs(self, seed, many):
        source = random.Random(seed)
        for _ in range(many):
            program = small_program(source)
            if all(all_runs(program, inputs, most=500) is not None for inputs in each_inputs(program)):
                yield program, source

    def check_noticed(self, program, paused):
        fewest = []
        for inputs in each_inputs(program):
            runs = all_runs(program, inputs, paused)
            plain = run(program, inputs)[:2]
            fewest += [len(cleared) for cleared, row in runs.items() if row[:2] != plain]
        held = copy.deepcopy((program, paused))
        found = noticed(program, paused=paused)
        self.assertEqual(found, noticed(program, paused=paused))
        self.assertEqual((program, paused), held)
        if not fewest:
            self.assertIsNone(found, (program, paused))
            return 0
        inputs, plan = found
        self.assertIs(type(found), tuple)
        self.assertIn(inputs, list(each_inputs(program)))
        done = run(program, inputs, plan, paused=paused)
        self.assertNotEqual(done[:2], run(program, inputs)[:2])
        self.assertEqual((done[3], len(plan)), (plan, min(fewest)))
        self.assertEqual(way_of(program, inputs, plan, paused=paused)[3], plan)
        return len(plan)

    def test_noticed(self):
        counts = {}
        for program, source in self.programs(41, 400):
            for paused in ((), tuple(p for p in range(size(program[1])) if source.randrange(2))):
                cleared = self.check_noticed(program, paused)
                counts[cleared] = counts.get(cleared, 0) + 1
        self.assertGreater(min(counts[0], counts[1]), 200, counts)
        self.assertGreater(counts[2], 10, counts)

    def outcomes(self, program, inputs):
        return {(row[0], same_end(row[1])) for row in all_runs(program, inputs).values()}

    def changed(self, source, program):
        """The program with one statement of its block left out, changed or moved."""
        rows = list(program[1])
        at = source.randrange(len(rows))
        row = rows.pop(at)
        if source.randrange(3):
            row = ("hold",) + row[1:] if row[0] == "weak" else ("take", "x", "root", "f") if row[0] == "ask" else row
            rows.insert(source.choice((at, source.randrange(len(rows) + 1))), row)
        return (program[0], tuple(rows))

    def test_alike(self):
        results = {None: 0, 0: 0, 1: 0}
        for program, source in self.programs(42, 400):
            other = self.changed(source, program)
            if source.randrange(2):
                program, other = other, program
            if any(all_runs(one, inputs, most=500) is None for one in (program, other) for inputs in each_inputs(one)):
                continue
            held = copy.deepcopy((program, other))
            found = alike(program, other)
            self.assertEqual(found, alike(program, other))
            self.assertEqual((program, other), held)
            same = all(self.outcomes(program, inputs) == self.outcomes(other, inputs) for inputs in each_inputs(program))
            self.assertEqual(found is None, same, (program, other))
            results[None if same else found[0]] += 1
            if not same:
                which, inputs, plan = found
                answers, end = run((program, other)[which], inputs, plan)[:2]
                self.assertNotIn((answers, same_end(end)), self.outcomes((other, program)[which], inputs))
                self.assertEqual(way_of((program, other)[which], inputs, plan)[3], plan)
        self.assertGreater(min(results.values()), 10, results)


class BeyondTheBounds(unittest.TestCase):

    def test_programs_that_fixes_have_changed(self):
        kept = (("make", "y"), ("keep", "y"), ("keep", "y")) * 8
        one = (0, LOOSE + (("repeat", 12, kept), ASK))
        other = (0, LOOSE + (ASK, ("repeat", 12, kept)))
        self.assertIsNotNone(program_error(one))
        self.assertEqual(noticed(one), ((), ((293, 1),)))
        self.assertIsNone(alike(one, other))
        self.assertIsNotNone(alike(one, (0, LOOSE[:3] + other[1][4:])))


if __name__ == "__main__":
    unittest.main()
