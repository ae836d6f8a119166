"""ways, way_of, early_plan and each_inputs."""

import copy
import random
import unittest

from exploring import all_runs, all_ways, early_run, small_program
from maybegone.errors import GoneError, TooMany
from maybegone.programs import program_error
from maybegone.runs import run
from maybegone.ways import each_inputs, early_plan, way_of, ways
from reference import random_cases, size

ASK = ("ask", ("full", "r", "f"))
LOOSE = (("make", "r"), ("make", "x"), ("weak", "r", "f", "x"), ("drop", "x"))


def asking(many):
    """A program that asks so many times about one cell: it has a record more than that."""
    full, rest = divmod(many, 12)
    return (0, LOOSE + (("repeat", 12, (ASK,) * full),) + (ASK,) * rest)


def separate(many):
    """A program that asks once about each of so many cells: it has 2 ** many records."""
    rows = (("make", "r"),)
    for k in range(many):
        rows += (("make", "x"), ("weak", "r", f"f{k}", "x"))
    return (0, rows + (("drop", "x"),) + tuple(("ask", ("full", "r", f"f{k}")) for k in range(many)))


def records(program, inputs=(), paused=()):
    return [row[0] for row in ways(program, inputs, paused=paused)]


class Ways(unittest.TestCase):

    def test_a_program_that_does_nothing(self):
        self.assertEqual(list(ways((0, ()), ())), [((), (), None, ())])
        self.assertEqual(list(ways((0, (("say", "a"),)), ())), [((), (("said", "a"),), None, ())])

    def test_cells_that_nothing_asks_about(self):
        program = (0, (("make", "x"), ("make", "x"), ("drop", "x"), ("say", "a")))
        self.assertEqual(list(ways(program, ())), [((), (("said", "a"),), None, ())])

    def test_a_reached_cell(self):
        program = (0, LOOSE[:3] + (ASK, ("take", "y", "r", "f")))
        self.assertEqual(list(ways(program, ())), [((0, 0), (("yes",),), None, ())])

    def test_each_as_late_as_possible(self):
        program = (0, LOOSE + (("say", "a"), ASK, ("say", "b"), ASK))
        self.assertEqual([row[3] for row in ways(program, ())], [(), ((7, 1),), ((5, 1),)])

    def test_a_cell_that_is_taken_back(self):
        program = (0, LOOSE + (ASK, ("take", "x", "r", "f"), ASK, ("drop", "x"), ASK))
        self.assertEqual(
            [(row[0], row[3]) for row in ways(program, ())],
            [((0, 0, 0, 0), ()), ((0, 0, 0, 1), ((8, 1),)), ((0, 1, 1, 1), ((5, 1),)), ((1, 1, 1, 1), ((4, 1),))])

    def test_cells_that_come_along(self):
        # Cell 2 holds cell 1, and cell 3 holds cell 2.
        rows = (("make", "r"), ("make", "x"), ("weak", "r", "f", "x"), ("make", "y"), ("hold", "y", "g", "x"), ("make", "x"), ("hold", "x", "g", "y"),
                ("weak", "r", "g", "x"), ("drop", "y"), ("drop", "x"), ("ask", ("full", "r", "g")), ASK)
        self.assertEqual(
            [(row[0], row[3]) for row in ways((0, rows), ())],
            [((0, 0), ()), ((0, 1), ((11, 1), (11, 2), (11, 3))), ((1, 0), ((10, 3),)), ((1, 1), ((10, 3), (11, 1), (11, 2)))])

    def test_wishes(self):
        rows = (("make", "x"), ("wish", "x", "w"), ("make", "y"), ("wish", "y", "w"), ("drop", "x"), ("drop", "y"), ("ask", ("wished", "w")))
        self.assertEqual(list(ways((0, rows), ())), [
            ((0, 0), (("no",),), None, ()), ((0, 1), (("yes",),), None, ((6, 1),)), ((1,), (("yes",),), None, ((6, 0),))])

    def test_stops(self):
        rows = LOOSE + (("take", "x", "r", "f"), ("keep", "x"), ("say", "a"))
        self.assertEqual(list(ways((0, rows), ())), [((0,), (("said", "a"),), None, ()), ((1,), (), ("name", 5), ((4, 1),))])

    def test_inputs(self):
        program = (1, LOOSE + (("if", ("given", 0), (ASK,), ()),))
        self.assertEqual((records(program, (0,)), records(program, (1,))), ([()], [(0,), (1,)]))

    def test_a_row_for_each_first_yes(self):
        self.assertEqual(records(asking(5)), [(0,) * k + (1,) * (5 - k) for k in range(5, -1, -1)])


class TooManyWays(unittest.TestCase):

    def check(self, program, paused=()):
        self.assertIsNone(program_error(program))
        with self.assertRaises(TooMany) as caught:
            next(iter(ways(program, (), paused=paused)))
        self.assertIsInstance(caught.exception, GoneError)

    def test_just_64_and_65(self):
        rows = list(ways(asking(63), ()))
        self.assertEqual(len(rows), 64)
        self.assertEqual(rows[-1], ((1,) * 63, (("no",),) * 63, None, ((5, 1),)))
        self.check(asking(64))

    def test_64_and_128(self):
        found = records(separate(6))
        self.assertEqual(len(found), 64)
        self.assertEqual(found, [tuple(n >> k & 1 for k in range(5, -1, -1)) for n in range(64)])
        self.check(separate(7))
        self.check((0, separate(6)[1] + (("ask", ("full", "r", "f5")),)))

    def test_very_many(self):
        self.check(separate(9))
        self.check(asking(144))

    def test_paused_places_make_fewer(self):
        program = asking(64)
        self.assertEqual(len(records(program, paused=(6,))), 64 - 11)
        program = separate(7)
        self.assertEqual(records(program, paused=tuple(range(size(program[1])))), [(0,) * 7])
        self.check(program, paused=(0, 1, 2))

    def test_way_of_does_not_count(self):
        for program in (asking(64), asking(144), separate(9)):
            with_none = way_of(program, (), ())
            self.assertEqual(with_none[0], run(program, ())[2])
            self.assertEqual(with_none[2:], (None, ()))
        self.assertEqual(way_of(asking(144), (), ((10, 1),))[3], ((10, 1),))
        self.assertEqual(way_of(separate(9), (), ((21, 1), (21, 2), (21, 3)))[3], ((21, 2), (22, 3)))


class Paused(unittest.TestCase):

    def test_the_last_moment_that_is_not_paused(self):
        program = (0, LOOSE + (("say", "a"), ("say", "b"), ASK))
        self.assertEqual([[row[3] for row in ways(program, (), paused=p)] for p in ((), (6,), (5, 6), (4, 6), (4, 5, 6))],
                         [[(), ((6, 1),)], [(), ((5, 1),)], [(), ((4, 1),)], [(), ((5, 1),)], [()]])

    def test_from_the_first_moment_on(self):
        program = (0, LOOSE + (("say", "a"), ASK))
        everywhere = tuple(range(6))
        self.assertEqual([len(records(program, paused=everywhere[:k])) for k in range(7)], [2, 2, 2, 2, 2, 2, 1])

    def test_paused_places_of_a_repeat(self):
        program = (0, LOOSE + (("repeat", 3, (ASK, ("say", "a"))),))
        self.assertEqual([row[3] for row in ways(program, (), paused=(5,))], [(), ((8, 1),), ((6, 1),), ((4, 1),)])
        self.assertEqual([row[3] for row in ways(program, (), paused=(4, 5))], [(), ((8, 1),), ((6, 1),)])
        self.assertEqual([row[3] for row in ways(program, (), paused=(4, 5, 6))], [()])

    def test_a_cell_that_is_reached_up_to_the_pause(self):
        # Up to moment 7 cell 1 is reached by way of cell 2, for which y stands.
        rows = (("make", "r"), ("make", "x"), ("make", "y"), ("hold", "y", "g", "x"), ("weak", "r", "f", "x"), ("weak", "r", "g", "y"),
                ("drop", "x"), ("cut", "y", "g"), ("drop", "y"), ASK, ("ask", ("full", "r", "g")))
        self.assertEqual(records((0, rows), paused=(8, 9)), [(0, 0), (0, 1)])
        self.assertEqual(records((0, rows), paused=(9,)), [(0, 0), (0, 1), (1, 0), (1, 1)])

    def test_a_cell_that_was_held_ahead_of_the_pause(self):
        # At moment 8 only r is reached, and cell 2 holds cell 1; then cell 2 is taken back, and lets go of cell 1.
        rows = (("make", "r"), ("make", "x"), ("make", "y"), ("hold", "y", "g", "x"), ("weak", "r", "f", "x"), ("weak", "r", "g", "y"),
                ("drop", "x"), ("drop", "y"), ("take", "y", "r", "g"), ("if", ("set", "y"), (("cut", "y", "g"),), ()), ASK)
        found = [(row[0], row[3]) for row in ways((0, rows), (), paused=(9, 10, 11))]
        self.assertEqual(found, [((0, 0), ()), ((1, 0), ((8, 2),)), ((1, 1), ((8, 1), (8, 2)))])
        # A no about cell 2 tells that cell 1 was there as well; nothing is cleared behind that if it is paused.
        found = [(row[0], row[3]) for row in ways((0, rows), ())]
        self.assertEqual(found, [((0, 0), ()), ((0, 1), ((11, 1),)), ((1, 0), ((8, 2),)), ((1, 1), ((8, 2), (10, 1)))])


class WayOf(unittest.TestCase):

    def test_the_plain_run(self):
        self.assertEqual(way_of(asking(3), (), ()), ((0, 0, 0), (("yes",),) * 3, None, ()))

    def test_paused(self):
        program = (0, LOOSE + (("say", "a"), ASK))
        self.assertEqual(way_of(program, (), ((4, 1),))[3], ((5, 1),))
        self.assertEqual(way_of(program, (), ((4, 1),), paused=(5,))[3], ((4, 1),))
        self.assertEqual(way_of(program, (), ((4, 1),), paused=(4,))[3], ())
        self.assertEqual(way_of(program, (), ((4, 1), (5, 1)), paused=(4,))[3], ((5, 1),))

    def test_long_runs(self):
        # 200 questions, about 12 cells in turn.
        rows = (("repeat", 12, (("make", "x"), ("wish", "x", "w"))), ("drop", "x"), ("repeat", 12, (("ask", ("wished", "w")),)))
        program = (0, rows + (("ask", ("wished", "w")),) * 6)
        record = run(program, ())[2]
        self.assertEqual(len(record), 200)
        self.assertEqual(way_of(program, (), ()), (record, (("no",),) * 16, ("long", 10), ()))
        # The run ends with a no about each of the first eight cells.
        self.assertEqual(early_plan(program, (), ()), ((43, 8), (43, 9), (43, 10), (43, 11)))
        plan = ((42, 3), (42, 11))
        answers, end, record, _ = run(program, (), plan)
        self.assertEqual(len(record), 15 * 12 + 3 * 4)
        self.assertEqual(way_of(program, (), plan), (record, answers, end, ((42, 3),)))
        # From the first yes on nothing is asked about the cells behind it.
        self.assertEqual(early_plan(program, (), plan), tuple((42, cell) for cell in range(3, 12)))

    def test_200_questions_about_a_cell(self):
        program = (0, LOOSE + (("repeat", 12, (ASK,) * 12), ("repeat", 4, (ASK,) * 12)) + (ASK,))
        program = (0, program[1] + (("repeat", 9, (ASK,)),))
        record = run(program, ())[2]
        self.assertEqual(len(record), 200)
        self.assertEqual(way_of(program, (), ())[0], (0,) * 200)
        self.assertEqual(early_plan(program, (), ((100, 1),)), ((100, 1),))
        self.assertEqual(way_of(program, (), ((100, 1),))[3], ((100, 1),))


class EarlyPlan(unittest.TestCase):

    def test_nothing_to_clear(self):
        self.assertEqual(early_plan((0, ()), (), ()), ())
        self.assertEqual(early_plan((0, (("make", "x"), ("say", "a"))), (), ()), ())
        self.assertEqual(early_plan((0, (("make", "x"), ("drop", "x"))), (), ()), ())

    def test_as_soon_as_possible(self):
        program = (0, (("make", "x"), ("drop", "x"), ("say", "a"), ("say", "b")))
        self.assertEqual([early_plan(program, (), plan) for plan in ((), ((3, 0),))], [((2, 0),)] * 2)

    def test_behind_the_last_no(self):
        program = (0, LOOSE + (ASK, ASK, ("say", "a")))
        self.assertEqual(
            [early_plan(program, (), plan) for plan in ((), ((6, 1),), ((5, 1),), ((4, 1),))],
            [((6, 1),), ((6, 1),), ((5, 1),), ((4, 1),)])

    def test_ahead_of_what_it_comes_to(self):
        # Cell 2 comes to cell 1, and can be cleared ahead of it.
        rows = LOOSE[:3] + (("make", "y"), ("hold", "y", "f", "x"), ("drop", "y"), ("drop", "x"), ASK, ("say", "a"))
        self.assertEqual(early_plan((0, rows), (), ()), ((6, 2), (8, 1)))


class Inputs(unittest.TestCase):

    def test_each(self):
        self.assertEqual(list(each_inputs((0, ()))), [()])
        self.assertEqual(list(each_inputs((1, ()))), [(0,), (1,)])
        self.assertEqual(list(each_inputs((3, (("say", "a"),)))), [
            (0, 0, 0), (0, 0, 1), (0, 1, 0), (0, 1, 1), (1, 0, 0), (1, 0, 1), (1, 1, 0), (1, 1, 1)])

    def test_kinds(self):
        for inputs in each_inputs((2, ())):
            self.assertIs(type(inputs), tuple)
            self.assertTrue(all(type(bit) is int for bit in inputs))


class AllPlans(unittest.TestCase):

    def cases(self, seed, many):
        """Programs of which not too many runs exist, each with nothing and with something paused."""
        source = random.Random(seed)
        for _ in range(many):
            program = small_program(source)
            inputs = tuple(source.randrange(2) for _ in range(program[0]))
            places = range(size(program[1]))
            for paused in ((), tuple(p for p in places if source.randrange(3) == 0), tuple(p for p in places if source.randrange(2))):
                rows = all_ways(program, inputs, paused, 600)
                if rows is not None:
                    yield program, inputs, paused, rows

    def test_ways(self):
        several = [0, 0, 0]
        for program, inputs, paused, rows in self.cases(31, 350):
            held = copy.deepcopy((program, inputs, paused))
            found = list(ways(program, inputs, paused=paused))
            self.assertEqual(found, rows, (program, inputs, paused))
            self.assertEqual(found, list(ways(program, inputs, paused=paused)))
            self.assertEqual((program, inputs, paused), held)
            if len(rows) > 1:
                several[0] += 1
                several[1] += bool(paused)
                several[2] += any(len(row[3]) > 1 for row in rows)
        self.assertGreater(min(several), 60, several)

    def test_way_of(self):
        for program, inputs, paused, rows in self.cases(32, 150):
            for cleared, row in list(all_runs(program, inputs, paused).items())[:40]:
                found = way_of(program, inputs, cleared, paused=paused)
                self.assertEqual(found, [one for one in rows if one[0] == row[2]][0])

    def test_early_plan(self):
        several = 0
        for program, inputs, paused, _ in self.cases(33, 250):
            runs = all_runs(program, inputs)
            for record in {row[2] for row in runs.values()} if not paused and runs else ():
                same = {cleared: row for cleared, row in runs.items() if row[2] == record}
                early = early_run(same)
                several += len(early) > 1
                for cleared in list(same)[:10]:
                    self.assertEqual(early_plan(program, inputs, cleared), early)
        self.assertGreater(several, 100)

    def test_the_plans_lead_to_their_records(self):
        noticing = 0
        for program, inputs, plan, paused in random_cases(34, 600):
            record = run(program, inputs, plan, paused=paused)[2]
            row = way_of(program, inputs, plan, paused=paused)
            self.assertEqual(run(program, inputs, row[3], paused=paused), (row[1], row[2], record, row[3]))
            self.assertEqual(row[0], record)
            # What is cleared in the late run is cleared in this one, not later.
            cleared = {cell: moment for moment, cell in run(program, inputs, plan, paused=paused)[3]}
            for moment, cell in row[3]:
                self.assertLessEqual(cleared[cell], moment)
            self.check_early(program, inputs, plan)
            self.check_rows(program, inputs, paused, row)
            noticing += len(row[3])
        self.assertGreater(noticing, 60)

    def check_early(self, program, inputs, plan):
        early = early_plan(program, inputs, plan)
        done = run(program, inputs, early)
        self.assertEqual(done[3], early)
        self.assertEqual(done[2], run(program, inputs, plan)[2])
        firsts = {cell: moment for moment, cell in early}
        for moment, cell in run(program, inputs, plan)[3]:
            self.assertLessEqual(firsts[cell], moment)

    def check_rows(self, program, inputs, paused, row):
        try:
            rows = list(ways(program, inputs, paused=paused))
        except TooMany:
            return
        found = [one[0] for one in rows]
        self.assertEqual(found, sorted(set(found)))
        self.assertIn(row, rows)
        for record, answers, end, plan in rows:
            self.assertEqual(run(program, inputs, plan, paused=paused), (answers, end, record, plan))


class BeyondTheBounds(unittest.TestCase):

    def test_programs_that_fixes_have_changed(self):
        rows = ()
        for name in ("x", "y", "z"):
            rows += (("make", name), ("keep", name), ("keep", name)) if name == "y" else (("make", name),)
        rows += (("weak", "x", "f", "z"), ("drop", "z"))
        program = (0, (("repeat", 12, rows * 4), ("ask", ("full", "x", "f")), ("ask", ("set", "x"))))
        self.assertIsNotNone(program_error(program))
        found = list(ways(program, ()))
        self.assertEqual([row[0] for row in found], [(0,), (1,)])
        self.assertEqual(found[1][3], ((1 + 12 * 28, 143),))
        self.assertEqual(way_of(program, (), found[1][3]), found[1])
        plan = early_plan(program, (), ())
        # Behind the question its cell can be cleared, too.
        self.assertEqual(len(plan), 47 * 2 + 1)
        self.assertEqual(plan[-1], (2 + 12 * 28, 143))
        self.assertEqual(run(program, (), plan)[2:], ((0,), plan))


if __name__ == "__main__":
    unittest.main()
