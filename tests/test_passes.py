"""run_passes, quiet_moments, crowded and fewest_passes."""

import copy
import itertools
import random
import time
import unittest

from exploring import small_program
from maybegone.fixes import Keeps
from maybegone.passes import crowded, fewest_passes, quiet_moments, run_passes
from maybegone.programs import make_places, program_error
from maybegone.runs import run, there_at
from maybegone.ways import each_inputs, early_plan
from reference import Model, random_cases, random_program

ASK = ("ask", ("full", "x", "f"))
PROGRAM = (0, (("make", "x"), ("make", "y"), ("weak", "x", "f", "y"), ("drop", "y"), ASK, ("drop", "x")))


class PassModel(Model):
    """A run with passes that notes what is asked, and what is not reached at each moment."""

    def __init__(self, inputs, moments):
        super().__init__(inputs, (), ())
        self.moments = moments
        self.asked = []
        self.loose = []

    def collector(self):
        loose = [k for k in range(len(self.cells)) if not self.is_reached(k)]
        self.loose.append(loose)
        if self.moment in self.moments:
            for k in loose:
                if self.cells[k]["gone"] is None:
                    self.cells[k]["gone"] = self.moment

    def question(self, cell):
        answer = super().question(cell)
        self.asked.append((self.moment, cell))
        return answer


def model_of(program, inputs, moments=()):
    model = PassModel(inputs, moments)
    model.play(program[1], 0)
    return model


def slow_run_passes(program, inputs, moments):
    """What run_passes has to return, and what there_at would tell of this run."""
    model = model_of(program, inputs, moments)
    cleared = sorted((c["gone"], k) for k, c in enumerate(model.cells) if c["gone"] is not None)
    return (tuple(model.answers), model.end, tuple(model.record), tuple(cleared)), tuple(model.there)


def slow_quiet_moments(program, inputs):
    model = model_of(program, inputs)
    return tuple(m for m in range(model.moment) if not any(at >= m and cell in model.loose[m] for at, cell in model.asked))


def slow_crowded(program, inputs, moments, limit):
    there = slow_run_passes(program, inputs, moments)[1]
    return next((m for m, many in enumerate(there) if many > limit), None)


class RunPasses(unittest.TestCase):

    def run_passes(self, program, inputs, moments):
        found = run_passes(program, inputs, moments)
        self.assertEqual(found, slow_run_passes(program, inputs, moments)[0])
        return found

    def test_no_passes(self):
        self.assertEqual(self.run_passes(PROGRAM, (), ()), run(PROGRAM, ()))
        self.assertEqual(self.run_passes((0, ()), (), ()), ((), None, (), ()))
        self.assertEqual(self.run_passes((0, ()), (), (0, 1)), ((), None, (), ()))

    def test_one_pass(self):
        self.assertEqual([self.run_passes(PROGRAM, (), (m,))[2:] for m in range(7)],
                         [((0,), ())] * 4 + [((1,), ((4, 1),)), ((0,), ((5, 1),)), ((0,), ())])

    def test_moments_that_the_run_does_not_have(self):
        self.assertEqual(self.run_passes(PROGRAM, (), (6, 7, 400, 10 ** 6)), run(PROGRAM, ()))
        self.assertEqual(self.run_passes(PROGRAM, (), (5, 6, 10 ** 6))[3], ((5, 1),))
        # The name stops the run ahead of the pass.
        program = (0, (("make", "x"), ("drop", "x"), ("keep", "x"), ("say", "a")))
        self.assertEqual(self.run_passes(program, (), (3,)), ((), ("name", 2), (), ()))
        self.assertEqual(self.run_passes(program, (), (2, 3)), ((), ("name", 2), (), ((2, 0),)))

    def test_all_that_is_not_reached(self):
        rows = (("make", "a"), ("make", "b"), ("make", "c"), ("hold", "b", "f", "b"), ("hold", "c", "f", "a"), ("make", "d"), ("keep", "d"), ("drop", "a"),
                ("drop", "b"), ("drop", "d"), ("say", "w"), ("drop", "c"), ("say", "v"))
        self.assertEqual(self.run_passes((0, rows), (), (10,))[3], ((10, 1),))
        self.assertEqual(self.run_passes((0, rows), (), (10, 12))[3], ((10, 1), (12, 0), (12, 2)))
        self.assertEqual(self.run_passes((0, rows), (), (12,))[3], ((12, 0), (12, 1), (12, 2)))

    def test_400_moments(self):
        program = (0, (("repeat", 12, (("make", "x"),) * 15),))
        found = self.run_passes(program, (), tuple(range(400)))
        self.assertEqual(found[3], tuple((k + 3, k) for k in range(178)))
        self.assertEqual(self.run_passes(program, (), tuple(range(10 ** 6 - 399, 10 ** 6 + 1)))[3], ())

    def test_random_programs(self):
        clearing = noticing = 0
        source = random.Random(91)
        for program, inputs, _, _ in random_cases(92, 400):
            moments = tuple(sorted({source.randrange(30) for _ in range(source.choice((1, 3, 40)))}))
            held = copy.deepcopy((program, inputs, moments))
            found = self.run_passes(program, inputs, moments)
            self.assertEqual(found, run_passes(program, inputs, moments))
            self.assertEqual((program, inputs, moments), held)
            # It is the run with the plan that it tells.
            self.assertEqual(found, run(program, inputs, found[3]))
            clearing += bool(found[3])
            noticing += 1 in found[2]
        self.assertGreater(clearing, 100)
        self.assertGreater(noticing, 50)


class QuietMoments(unittest.TestCase):

    def quiet(self, program, inputs=()):
        found = quiet_moments(program, inputs)
        self.assertEqual(found, slow_quiet_moments(program, inputs))
        return found

    def test_no_statements(self):
        self.assertEqual(self.quiet((0, ())), ())

    def test_without_questions(self):
        self.assertEqual(self.quiet((0, (("make", "x"), ("drop", "x"), ("say", "a")))), (0, 1, 2))

    def test_the_statement_of_the_moment_itself(self):
        self.assertEqual(self.quiet(PROGRAM), (0, 1, 2, 3, 5))
        self.assertEqual(self.quiet((0, PROGRAM[1][:4] + (("say", "a"), ASK, ASK, ("say", "a")))), (0, 1, 2, 3, 7))

    def test_cells_that_are_reached(self):
        self.assertEqual(self.quiet((0, PROGRAM[1][:3] + (ASK, ASK))), (0, 1, 2, 3, 4))
        # At moment 4 and 5 cell 1 is reached by way of cell 0.
        self.assertEqual(self.quiet((0, PROGRAM[1][:2] + (("hold", "x", "f", "y"), ("drop", "y"), ASK, ("drop", "x")))), (0, 1, 2, 3, 4, 5))

    def test_cells_that_are_taken_back(self):
        program = (0, PROGRAM[1][:4] + (("say", "a"), ("take", "y", "x", "f"), ("say", "a"), ASK, ("drop", "y"), ("say", "a"), ASK, ("say", "a")))
        self.assertEqual(self.quiet(program), (0, 1, 2, 3, 6, 7, 8, 11))

    def test_cells_that_are_made_later(self):
        # What is made at the moment itself or later is not among the cells of the moment.
        program = (0, (("make", "x"), ("drop", "x"), ("say", "a"), ("make", "x"), ("make", "y"), ("weak", "x", "f", "y"), ("drop", "y"), ASK))
        self.assertEqual(self.quiet(program), (0, 1, 2, 3, 4, 5, 6))

    def test_wishes(self):
        rows = (("make", "x"), ("wish", "x", "w"), ("make", "y"), ("wish", "y", "w"), ("drop", "y"), ("say", "a"), ("ask", ("wished", "w")), ("say", "a"))
        self.assertEqual(self.quiet((0, rows)), (0, 1, 2, 3, 4, 7))
        self.assertEqual(self.quiet((0, rows[:-2] + (("ask", ("wished", "v")), ("say", "a")))), (0, 1, 2, 3, 4, 5, 6, 7))

    def test_a_question_that_stops_the_run_is_not_asked(self):
        rows = (("make", "x"), ("repeat", 12, (("repeat", 4, (("if", ("full", "x", "g"), (), ()),) * 4),)), ("repeat", 8, (("if", ("full", "x", "g"), (), ()),)))
        rows = rows[:1] + (("weak", "x", "g", "x"),) + rows[1:] + (("make", "y"), ("weak", "x", "f", "y"), ("drop", "y"), ASK, ("say", "a"))
        program = (0, rows)
        self.assertEqual(run(program, ())[1], ("long", size_before_ask(rows)))
        last = len(there_at(program, ())) - 1
        self.assertIn(last, self.quiet(program))
        self.assertNotIn(last, self.quiet((0, rows[:3] + rows[4:])))

    def test_on_inputs(self):
        program = (1, PROGRAM[1][:4] + (("if", ("given", 0), (ASK,), ()), ("say", "a")))
        self.assertEqual([self.quiet(program, inputs) for inputs in each_inputs(program)], [(0, 1, 2, 3, 4, 5), (0, 1, 2, 3, 6)])

    def test_random_programs(self):
        some = 0
        for program, inputs, _, _ in random_cases(93, 500):
            held = copy.deepcopy((program, inputs))
            found = self.quiet(program, inputs)
            self.assertEqual(found, quiet_moments(program, inputs))
            self.assertEqual((program, inputs), held)
            some += len(found) < len(there_at(program, inputs))
        self.assertGreater(some, 100)

    def test_passes_at_quiet_moments_are_not_noticed(self):
        source = random.Random(94)
        clearing = 0
        for program, inputs, _, _ in random_cases(95, 400):
            quiet = quiet_moments(program, inputs)
            plain = run(program, inputs)
            for moments in (quiet, tuple(m for m in quiet if source.randrange(2)), quiet[-1:], quiet[:source.randrange(9)]):
                found = run_passes(program, inputs, moments)
                self.assertEqual(found[:3], plain[:3])
                clearing += bool(found[3])
            # A pass at a later quiet moment clears no less.
            cleared = [{cell for _, cell in run_passes(program, inputs, (m,))[3]} for m in quiet]
            for one, other in zip(cleared, cleared[1:]):
                self.assertTrue(one <= other)
        self.assertGreater(clearing, 300)

    def test_just_the_moments_at_which_a_pass_keeps_the_record(self):
        for program, inputs, _, _ in random_cases(96, 200):
            quiet = quiet_moments(program, inputs)
            for moment in range(len(there_at(program, inputs))):
                same = run_passes(program, inputs, (moment,))[2] == run(program, inputs)[2]
                self.assertEqual(same, moment in quiet)


def size_before_ask(rows):
    """The place of the last ask among these rows."""
    places = itertools.count()

    def walk(block):
        found = None
        for row in block:
            place = next(places)
            if row == ASK:
                found = place
            for inner in row[2:] if row[0] in ("if", "repeat") else ():
                found = walk(inner) or found
        return found

    return walk(rows)


class Crowded(unittest.TestCase):

    def crowded(self, program, inputs, moments, limit):
        found = crowded(program, inputs, moments, limit)
        self.assertEqual(found, slow_crowded(program, inputs, moments, limit))
        return found

    def test_limits(self):
        program = (0, (("say", "a"), ("make", "x"), ("make", "y"), ("say", "a"), ("make", "x"), ("make", "x")))
        self.assertEqual([self.crowded(program, (), (), limit) for limit in (0, 1, 2, 3, 4, 5, 1000)], [1, 2, 4, 5, None, None, None])
        self.assertEqual([self.crowded(program, (), (5,), limit) for limit in range(5)], [1, 2, 4, None, None])
        self.assertEqual([self.crowded(program, (), tuple(range(400)), limit) for limit in range(5)], [1, 2, 4, None, None])

    def test_no_statements(self):
        self.assertEqual([self.crowded((0, ()), (), (), limit) for limit in (0, 1000)], [None, None])
        self.assertEqual(self.crowded((0, (("say", "a"),)), (), (), 0), None)

    def test_moments_that_are_not_quiet(self):
        inner = (("make", "a"), ("make", "b"))
        program = (0, PROGRAM[1][:4] + (("if", ("full", "x", "f"), inner, ()),))
        self.assertEqual([self.crowded(program, (), moments, 2) for moments in ((), (4,), (5,))], [5, None, 6])

    def test_random_programs(self):
        source = random.Random(97)
        found = {}
        for program, inputs, _, _ in random_cases(98, 300):
            moments = tuple(sorted({source.randrange(30) for _ in range(source.choice((0, 2, 40)))}))
            limit = source.choice((0, 1, 3, 4, 5, 5, 6, 1000))
            held = copy.deepcopy((program, inputs, moments, limit))
            result = self.crowded(program, inputs, moments, limit)
            self.assertEqual(result, crowded(program, inputs, moments, limit))
            self.assertEqual((program, inputs, moments, limit), held)
            found[result is None] = found.get(result is None, 0) + 1
        self.assertGreater(min(found.values()), 50)


class FewestPasses(unittest.TestCase):

    def check(self, program, inputs, limit):
        held = copy.deepcopy((program, inputs, limit))
        found = fewest_passes(program, inputs, limit)
        self.assertEqual(found, fewest_passes(program, inputs, limit))
        self.assertEqual((program, inputs, limit), held)
        quiet = slow_quiet_moments(program, inputs)
        if found[0] == "passes":
            moments = found[1]
            self.assertIs(type(moments), tuple)
            self.assertEqual(list(moments), sorted(set(moments)))
            self.assertTrue(set(moments) <= set(quiet))
            self.assertIsNone(slow_crowded(program, inputs, moments, limit))
            self.assertIsNone(crowded(program, inputs, moments, limit))
        else:
            self.assertEqual(found, ("crowded", slow_crowded(program, inputs, quiet, limit)))
            self.assertIsNotNone(found[1])
        return found

    def test_no_passes(self):
        self.assertEqual(self.check((0, ()), (), 0), ("passes", ()))
        self.assertEqual(self.check((0, (("say", "a"),)), (), 0), ("passes", ()))
        self.assertEqual(self.check(PROGRAM, (), 2), ("passes", ()))
        self.assertEqual(self.check(PROGRAM, (), 1000), ("passes", ()))

    def test_crowded(self):
        self.assertEqual(self.check(PROGRAM, (), 0), ("crowded", 0))
        self.assertEqual(self.check(PROGRAM, (), 1), ("crowded", 1))

    def test_moments_that_are_not_quiet(self):
        # A pass at moment 4 would be enough, but it would be noticed.
        program = (0, PROGRAM[1][:4] + (("make", "a"), ASK, ("make", "b"), ("make", "c")))
        self.assertEqual(self.check(program, (), 2), ("crowded", 4))
        self.assertEqual(self.check(program, (), 3), ("crowded", 7))
        self.assertIn(self.check(program, (), 4), (("passes", (6,)), ("passes", (7,))))
        self.assertEqual(self.check(program, (), 5), ("passes", ()))

    def test_as_few_as_possible(self):
        program = (0, (("repeat", 12, (("make", "x"),) * 5),))
        for limit, many in ((0, None), (1, None), (2, 58), (3, 29), (4, 19), (10, 6), (30, 2), (31, 1), (59, 1), (60, 0)):
            found = self.check(program, (), limit)
            self.assertEqual(found[0], "crowded" if many is None else "passes")
            if many is not None:
                self.assertEqual(len(found[1]), many)

    def best(self, program, inputs, quiet, limit):
        """The length of the shortest tuple of quiet moments with which it is not crowded, or None."""
        for many in range(len(quiet) + 1):
            for chosen in itertools.combinations(quiet, many):
                if crowded(program, inputs, chosen, limit) is None:
                    return many
        return None

    def test_all_tuples_of_quiet_moments(self):
        source = random.Random(99)
        counts = {}
        for _ in range(500):
            program = small_program(source) if source.randrange(2) else random_program(source)
            for inputs in each_inputs(program):
                quiet = slow_quiet_moments(program, inputs)
                most = max(there_at(program, inputs), default=0)
                if len(quiet) <= 9:
                    limit = max(0, most - source.choice((0, 1, 1, 1, 2, 3)))
                    found = self.check(program, inputs, limit)
                    best = self.best(program, inputs, quiet, limit)
                    self.assertEqual(None if found[0] == "crowded" else len(found[1]), best)
                    counts[best] = counts.get(best, 0) + 1
        for best in (None, 0, 1):
            self.assertGreater(counts.get(best, 0), 3, counts)

    def test_several_passes_by_all_tuples(self):
        source = random.Random(100)
        counts = {}
        for _ in range(120):
            rows = tuple(source.choice((("make", "x"), ("make", "x"), ("make", "y"), ("drop", "y"), ("hold", "x", "f", "x"), ("weak", "x", "f", "x"),
                                        ("ask", ("full", "x", "f")))) for _ in range(8))
            program = (0, (("make", "x"), ("make", "y")) + rows)
            quiet = slow_quiet_moments(program, ())
            for limit in (2, 3, 4):
                found = self.check(program, (), limit)
                best = self.best(program, (), quiet, limit) if found[0] == "passes" else None
                self.assertEqual(None if found[0] == "crowded" else len(found[1]), best)
                counts[best] = counts.get(best, 0) + 1
        self.assertGreater(min(counts.get(many, 0) for many in (0, 1, 2, 3)), 2, counts)


class LongRuns(unittest.TestCase):

    def program(self, source):
        """A program whose runs execute some hundred statements; a fix has made it still longer."""
        kinds = (("make", "x"), ("make", "x"), ("make", "y"), ("weak", "x", "f", "y"), ("hold", "x", "g", "y"), ("hold", "y", "h", "x"), ("cut", "x", "g"),
                 ("hold", "r", "h", "x"), ("take", "z", "x", "f"), ("drop", "z"), ASK)
        rows = (("make", "r"), ("make", "x"), ("make", "y"), ("repeat", 12, tuple(source.choice(kinds) for _ in range(15))))
        program = (0, rows)
        self.assertIsNone(program_error(program))
        places = make_places(program)
        return Keeps().applied(program, places[-1:]) if source.randrange(2) else program

    def test_many_of_them(self):
        source = random.Random(101)
        programs = [self.program(source) for _ in range(60)]
        moments = tuple(range(0, 400))
        begun = time.process_time()
        long = 0
        for program in programs:
            quiet = quiet_moments(program, ())
            run_passes(program, (), moments)
            for limit in (2, 4, 8, 16, 40):
                found = fewest_passes(program, (), limit)
                self.assertEqual(crowded(program, (), quiet[:400], limit), found[1] if found[0] == "crowded" else None)
                if found[0] == "passes":
                    self.assertIsNone(crowded(program, (), found[1], limit))
            long += len(there_at(program, ())) > 100
        # It takes about a second; this is the bound for machines that are much slower.
        self.assertLess(time.process_time() - begun, 60)
        self.assertGreater(long, 30)

    def test_the_same_as_the_slow_ones(self):
        source = random.Random(102)
        for _ in range(6):
            program = self.program(source)
            self.assertEqual(quiet_moments(program, ()), slow_quiet_moments(program, ()))
            self.assertEqual(run_passes(program, (), tuple(range(0, 400, 7))), slow_run_passes(program, (), tuple(range(0, 400, 7)))[0])
            early = early_plan(program, (), ())
            self.assertEqual(run(program, (), early)[2], run(program, ())[2])


if __name__ == "__main__":
    unittest.main()
