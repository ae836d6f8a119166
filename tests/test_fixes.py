"""Fix, Keeps, Strongs, keeps and pauses."""

import copy
import itertools
import random
import unittest

from exploring import all_runs, small_program
from maybegone.errors import GoneError, NoPlace, TooMany
from maybegone.fixes import Fix, Keeps, Strongs, keeps, pauses
from maybegone.leads import led_run
from maybegone.programs import each_statement, make_places, program_error, weak_places
from maybegone.runs import run, there_at
from maybegone.verdicts import alike, noticed
from maybegone.ways import each_inputs, ways
from reference import random_program, size, slow_run

ASK = ("ask", ("full", "r", "f"))
LOOSE = (("make", "r"), ("make", "x"), ("weak", "r", "f", "x"), ("drop", "x"))
# 65 records, and just 64.
MANY = LOOSE + (("repeat", 12, (ASK,) * 5),) + (ASK,) * 4
ENOUGH = MANY[:-1]
# A statement of each kind.
KINDS = (
    ("make", "x"), ("wish", "x", "w"), ("keep", "x"), ("name", "x", "y"), ("drop", "x"), ("hold", "x", "f", "y"), ("weak", "x", "f", "y"),
    ("cut", "x", "f"), ("take", "z", "x", "f"), ("say", "w"), ("ask", ("set", "x")), ("if", ("set", "x"), (("make", "x"),), (("weak", "x", "f", "x"),)),
    ("repeat", 2, (("make", "x"), ("weak", "x", "f", "x"))),
)


def slow_applied(word, program, places):
    """The program in which the fix that is meant by the word is made at these places."""
    count = itertools.count()

    def block(rows):
        found = []
        for row in rows:
            place = next(count)
            if row[0] == "if":
                yes = block(row[2])
                row = ("if", row[1], yes, block(row[3]))
            elif row[0] == "repeat":
                row = ("repeat", row[1], block(row[2]))
            if place not in places:
                found.append(row)
            elif word == "keeps":
                assert row[0] == "make"
                found += [row, ("keep", row[1])]
            else:
                assert row[0] == "weak"
                found.append(("hold",) + row[1:])
        return tuple(found)

    return (program[0], block(program[1]))


def tuples_of(places, most=3):
    for many in range(most + 1):
        yield from itertools.combinations(places, many)


class Statements(unittest.TestCase):

    def test_fix(self):
        for row in KINDS:
            self.assertEqual(Fix().changed(row), (row,))
        for program in ((0, ()), (0, KINDS), (3, (("make", "x"), ("weak", "x", "f", "x")))):
            self.assertEqual(Fix().places_of(program), ())

    def test_keeps(self):
        for row in KINDS:
            self.assertEqual(Keeps().changed(row), (row, ("keep", "x")) if row[0] == "make" else (row,))
        self.assertEqual(Keeps().changed(("make", "abc1")), (("make", "abc1"), ("keep", "abc1")))
        self.assertEqual(Keeps().places_of((0, KINDS)), (0, 12, 15))
        self.assertEqual(Keeps().places_of((0, ())), ())

    def test_strongs(self):
        for row in KINDS:
            self.assertEqual(Strongs().changed(row), (("hold", "x", "f", "y"),) if row[0] == "weak" else (row,))
        self.assertEqual(Strongs().changed(("weak", "a", "b", "c")), (("hold", "a", "b", "c"),))
        self.assertEqual(Strongs().places_of((0, KINDS)), (6, 13, 16))
        self.assertEqual(Strongs().places_of((0, ())), ())

    def test_classes(self):
        for fix in (Keeps(), Strongs(), Fix()):
            self.assertIsInstance(fix, Fix)
        for owner in (Fix, Keeps, Strongs):
            self.assertTrue({"places_of", "changed"} <= set(vars(owner)))
            self.assertRaises(TypeError, owner, 1)

    def test_as_the_functions_of_programs(self):
        source = random.Random(71)
        for _ in range(100):
            program = random_program(source)
            self.assertEqual(Keeps().places_of(program), make_places(program))
            self.assertEqual(Strongs().places_of(program), weak_places(program))


class Applied(unittest.TestCase):

    def test_none_some_and_all_places(self):
        program = (2, (("make", "x"), ("make", "y"), ("weak", "x", "f", "y"), ("weak", "y", "f", "x"), ("make", "z")))
        self.assertEqual(Keeps().applied(program, ()), program)
        self.assertEqual(Keeps().applied(program, (1,)), (2, program[1][:2] + (("keep", "y"),) + program[1][2:]))
        self.assertEqual(Keeps().applied(program, (0, 1, 4)), (2, (
            ("make", "x"), ("keep", "x"), ("make", "y"), ("keep", "y"), ("weak", "x", "f", "y"), ("weak", "y", "f", "x"), ("make", "z"), ("keep", "z"))))
        self.assertEqual(Strongs().applied(program, ()), program)
        self.assertEqual(Strongs().applied(program, (3,)), (2, program[1][:3] + (("hold", "y", "f", "x"),) + program[1][4:]))
        self.assertEqual(Strongs().applied(program, (2, 3))[1][2:4], (("hold", "x", "f", "y"), ("hold", "y", "f", "x")))
        self.assertEqual(Fix().applied(program, ()), program)

    def test_within_blocks(self):
        program = (1, (("if", ("given", 0), (("make", "x"), ("repeat", 3, (("make", "x"), ("weak", "x", "f", "x")))), (("weak", "y", "f", "y"), ("make", "z"))),
                       ("repeat", 0, ()), ("make", "y")))
        self.assertEqual(Keeps().places_of(program), (1, 3, 6, 8))
        self.assertEqual(Keeps().applied(program, (1, 3, 6)), (1, (
            ("if", ("given", 0), (("make", "x"), ("keep", "x"), ("repeat", 3, (("make", "x"), ("keep", "x"), ("weak", "x", "f", "x")))),
             (("weak", "y", "f", "y"), ("make", "z"), ("keep", "z"))), ("repeat", 0, ()), ("make", "y"))))
        self.assertEqual(Strongs().places_of(program), (4, 5))
        self.assertEqual(Strongs().applied(program, (4,))[1][0][2][1], ("repeat", 3, (("make", "x"), ("hold", "x", "f", "x"))))
        self.assertEqual(Strongs().applied(program, (5,))[1][0][3], (("hold", "y", "f", "y"), ("make", "z")))

    def test_places_that_are_none(self):
        program = (0, (("make", "x"), ("weak", "x", "f", "x"), ("repeat", 2, (("make", "y"),))))
        for fix, places, wrong in (
                (Fix(), (0,), 0), (Fix(), (-5, 1), -5), (Keeps(), (1,), 1), (Keeps(), (0, 1, 2, 3), 1), (Keeps(), (0, 2, 3), 2), (Keeps(), (0, 3, 4), 4),
                (Keeps(), (-1, 0), -1), (Keeps(), (10 ** 40,), 10 ** 40), (Strongs(), (0,), 0), (Strongs(), (1, 2), 2), (Strongs(), (1, 9, 10), 9),
                (Strongs(), (-2, -1), -2)):
            with self.assertRaises(NoPlace) as caught:
                fix.applied(program, places)
            self.assertEqual(caught.exception.place, wrong)
            self.assertIsInstance(caught.exception, LookupError)
            self.assertNotIsInstance(caught.exception, ValueError)

    def test_random_programs(self):
        source = random.Random(72)
        for _ in range(300):
            program = random_program(source)
            held = copy.deepcopy(program)
            for fix, word in ((Keeps(), "keeps"), (Strongs(), "strongs")):
                places = tuple(p for p in fix.places_of(program) if source.randrange(2))
                self.assertEqual(fix.applied(program, places), slow_applied(word, program, places))
                self.assertEqual(fix.applied(program, places), fix.applied(program, places))
            self.assertEqual(program, held)

    def test_one_fix_behind_another(self):
        program = (0, (("make", "x"), ("make", "y"), ("weak", "x", "f", "y"), ("drop", "y"), ("ask", ("full", "x", "f"))))
        once = Keeps().applied(program, (1,))
        self.assertEqual(Keeps().places_of(once), (0, 1))
        self.assertEqual(Keeps().applied(once, (1,))[1][1:4], (("make", "y"), ("keep", "y"), ("keep", "y")))
        self.assertEqual(Strongs().applied(once, (3,))[1][3], ("hold", "x", "f", "y"))
        self.assertIsNone(noticed(Strongs().applied(once, (3,))))

    def test_records_are_taken_away_and_none_is_given(self):
        source = random.Random(73)
        fewer = 0
        for _ in range(150):
            program = small_program(source)
            for fix in (Keeps(), Strongs()):
                places = tuple(p for p in fix.places_of(program) if source.randrange(3) == 0)
                changed = fix.applied(program, places)
                for inputs in each_inputs(program):
                    before, after = [{row[0] for row in ways(one, inputs)} for one in (program, changed)]
                    self.assertTrue(after <= before)
                    fewer += after < before
        self.assertGreater(fewer, 60)


class Fewest(unittest.TestCase):

    def test_sure_programs(self):
        for fix in (Fix(), Keeps(), Strongs()):
            for program in ((0, ()), (0, LOOSE), (2, LOOSE[:3] + (ASK,))):
                self.assertEqual(fix.fewest(program), ())

    def test_one_place(self):
        program = (0, LOOSE + (ASK,))
        self.assertEqual([Fix().fewest(program), Keeps().fewest(program), Strongs().fewest(program)], [None, (1,), (2,)])

    def test_the_shortest_one_and_then_the_first_one(self):
        # The cell at place 2 holds that at place 1.
        program = (0, (("make", "r"), ("make", "x"), ("make", "y"), ("hold", "y", "f", "x"), ("weak", "r", "f", "x"), ("weak", "r", "g", "x"), ("drop", "x"), ("drop", "y"), ASK))
        self.assertEqual(Keeps().fewest(program), (1,))
        self.assertEqual(Strongs().fewest(program), (4,))
        other = (0, program[1][:-1] + (("ask", ("full", "r", "g")), ("wish", "r", "w"), ASK))
        self.assertEqual([Keeps().fewest(other), Strongs().fewest(other)], [(1,), (4,)])
        # With two weak references to unlike cells.
        program = (0, LOOSE + (("make", "x"), ("weak", "r", "g", "x"), ("drop", "x"), ASK, ("ask", ("full", "r", "g"))))
        self.assertEqual([Keeps().fewest(program), Strongs().fewest(program)], [(1, 4), (2, 5)])

    def cells(self, many, asks=None):
        rows = (("make", "r"),)
        for k in range(many):
            rows += (("make", "x"), ("weak", "r", f"f{k}", "x"))
        asked = range(many) if asks is None else asks
        return (0, rows + (("drop", "x"),) + tuple(("ask", ("full", "r", f"f{k}")) for k in asked))

    def test_three_places_and_four(self):
        self.assertEqual(Keeps().fewest(self.cells(3)), (1, 3, 5))
        self.assertEqual(Strongs().fewest(self.cells(3)), (2, 4, 6))
        self.assertEqual(Strongs().fewest(self.cells(6, (0, 2, 5))), (2, 6, 12))
        for fix in (Fix(), Keeps(), Strongs()):
            self.assertIsNone(fix.fewest(self.cells(4)))

    def test_places_of_wishes(self):
        # Nothing refers to the cell, but its wish tells that it is cleared.
        program = (0, (("make", "x"), ("wish", "x", "w"), ("drop", "x"), ("ask", ("wished", "w"))))
        self.assertEqual([Keeps().fewest(program), Strongs().fewest(program), Fix().fewest(program)], [(0,), None, None])

    def too_many(self, fix, program):
        self.assertIsNone(program_error(program))
        with self.assertRaises(TooMany) as caught:
            fix.fewest(program)
        self.assertIsInstance(caught.exception, GoneError)

    def test_six_places_and_seven(self):
        self.assertEqual(Keeps().fewest((0, LOOSE + (ASK,) + (("make", "y"),) * 4)), (1,))
        self.too_many(Keeps(), (0, LOOSE + (ASK,) + (("make", "y"),) * 5))
        self.assertEqual(Strongs().fewest((0, LOOSE + (ASK,) + (("weak", "r", "g", "r"),) * 5)), (2,))
        self.too_many(Strongs(), (0, LOOSE + (ASK,) + (("weak", "r", "g", "r"),) * 6))
        self.assertIsNone(Fix().fewest((0, LOOSE + (ASK,) + (("make", "y"), ("weak", "r", "g", "r")) * 9)))

    def test_seven_places_of_a_sure_program(self):
        for many, program in ((6, (0, (("make", "x"),) * 6)), (7, (0, (("make", "x"),) * 7))):
            self.assertEqual(Strongs().fewest(program), ())
            if many == 6:
                self.assertEqual(Keeps().fewest(program), ())
            else:
                self.too_many(Keeps(), program)
        self.too_many(Strongs(), (0, (("make", "x"),) + (("weak", "x", "f", "x"),) * 7))
        # Places that no run comes to count as well.
        self.too_many(Keeps(), (0, (("repeat", 0, (("make", "x"),) * 7),)))

    def test_too_many_records(self):
        for fix in (Fix(), Keeps(), Strongs()):
            self.too_many(fix, (0, MANY))
            self.too_many(fix, (1, (("if", ("given", 0), MANY, ()),)))
            self.too_many(fix, (1, (("if", ("given", 0), (), MANY),)))
        self.assertEqual([Fix().fewest((0, ENOUGH)), Keeps().fewest((0, ENOUGH)), Strongs().fewest((0, ENOUGH))], [None, (1,), (2,)])

    def test_too_many_records_of_a_sure_program(self):
        quiet = ("take", "y", "r", "f"), ("drop", "y")
        for fix in (Fix(), Keeps(), Strongs()):
            self.too_many(fix, (0, LOOSE + (("repeat", 8, quiet * 8),)))
            self.assertEqual(fix.fewest((0, LOOSE + (("repeat", 9, quiet * 7),))), ())

    def test_all_tuples_of_small_programs(self):
        source = random.Random(74)
        counts = {}
        for _ in range(300):
            program = small_program(source)
            held = copy.deepcopy(program)
            for fix, word in ((Keeps(), "keeps"), (Strongs(), "strongs"), (Fix(), "fix")):
                places = fix.places_of(program)
                if len(places) > 6:
                    self.assertRaises(TooMany, fix.fewest, program)
                    continue
                found = fix.fewest(program)
                sure = [chosen for chosen in tuples_of(places) if noticed(slow_applied(word, program, chosen)) is None]
                self.assertEqual(found, sure[0] if sure else None, (program, word))
                self.assertEqual(found, fix.fewest(program))
                shown = (word, found if found is None else len(found))
                counts[shown] = counts.get(shown, 0) + 1
            self.assertEqual(program, held)
        for shown in (("keeps", 0), ("keeps", 1), ("keeps", 2), ("strongs", 0), ("strongs", 1), ("strongs", 2), ("strongs", None), ("fix", 0), ("fix", None)):
            self.assertGreater(counts.get(shown, 0), 10, counts)


class KeepsAndPauses(unittest.TestCase):

    def slow_keeps(self, program):
        for places in tuples_of(make_places(program)):
            if noticed(slow_applied("keeps", program, places)) is None:
                return ("keeps", places)
        return ("many",)

    def slow_pauses(self, program):
        for places in tuples_of(range(size(program[1]))):
            if noticed(program, paused=places) is None:
                return ("pauses", places)
        return ("many",)

    def check(self, program):
        held = copy.deepcopy(program)
        found = (keeps(program), pauses(program))
        self.assertEqual(found, (keeps(program), pauses(program)))
        self.assertEqual(program, held)
        self.assertEqual(found[0], self.slow_keeps(program), program)
        self.assertEqual(found[1], self.slow_pauses(program), program)
        return found

    def test_sure_programs(self):
        for program in ((0, ()), (0, LOOSE), (2, LOOSE[:3] + (ASK,)), (0, LOOSE + (("take", "x", "r", "f"), ("drop", "x")))):
            self.assertEqual(self.check(program), (("keeps", ()), ("pauses", ())))

    def test_one_cell(self):
        self.assertEqual(self.check((0, LOOSE + (ASK,))), (("keeps", (1,)), ("pauses", (4,))))
        self.assertEqual(self.check((0, LOOSE + (("say", "a"), ASK, ASK))), (("keeps", (1,)), ("pauses", (4, 5, 6))))
        self.assertEqual(self.check((0, LOOSE + (("say", "a"), ("say", "b"), ASK, ASK))), (("keeps", (1,)), ("many",)))

    def test_repeats(self):
        # The places count, not the moments at which they are executed.
        program = (0, LOOSE + (("repeat", 5, (ASK, ASK)),))
        self.assertEqual(self.check(program), (("keeps", (1,)), ("pauses", (4, 5, 6))))
        program = (0, (("make", "r"), ("repeat", 4, (("make", "x"), ("weak", "r", "f", "x"), ("drop", "x"), ASK))))
        self.assertEqual(self.check(program), (("keeps", (2,)), ("pauses", (5,))))

    def test_a_holder_in_the_place_of_the_cell(self):
        # Cell 2 is cleared in each run in which cell 1 is; it is made once and kept for both.
        rows = (("make", "r"), ("make", "x"), ("make", "y"), ("hold", "y", "f", "x"), ("weak", "r", "f", "x"), ("weak", "r", "g", "y"), ("drop", "x"), ("drop", "y"))
        self.assertEqual(self.check((0, rows + (ASK,)))[0], ("keeps", (1,)))
        self.assertEqual(self.check((0, rows + (ASK, ("ask", ("full", "r", "g")))))[0], ("keeps", (2,)))

    def test_a_pause_for_the_sake_of_what_comes_along(self):
        # Cell 1 is only cleared together with cell 2, which is let go of at the last moment alone.
        rows = (("make", "r"), ("make", "x"), ("make", "y"), ("hold", "y", "f", "x"), ("weak", "r", "f", "x"), ("drop", "x"), ("say", "a"), ("drop", "y"), ASK)
        self.assertEqual(self.check((0, rows)), (("keeps", (1,)), ("pauses", (8,))))

    def test_on_some_inputs_only(self):
        program = (2, LOOSE + (("if", ("given", 1), (("if", ("given", 0), (ASK,), ()),), ()),))
        self.assertEqual(self.check(program), (("keeps", (1,)), ("pauses", (4, 5, 6))))

    def test_the_first_of_several(self):
        # Either of two cells or of two places is enough.
        rows = (("make", "r"), ("make", "x"), ("weak", "r", "f", "x"), ("make", "x"), ("weak", "r", "g", "x"), ("drop", "x"))
        program = (0, rows + (("if", ("full", "r", "f"), (), (("if", ("full", "r", "g"), (), (("say", "a"),)),)),))
        self.assertEqual(self.check(program), (("keeps", (1,)), ("pauses", (6, 7))))

    def test_three_and_four_places(self):
        rows = (("make", "r"),)
        for field in ("a", "b", "c", "d"):
            rows += (("make", "x"), ("weak", "r", field, "x"))
        asks = tuple(("ask", ("full", "r", field)) for field in ("a", "b", "c", "d"))
        self.assertEqual(self.check((0, rows + (("drop", "x"),) + asks[:3])), (("keeps", (1, 3, 5)), ("many",)))
        self.assertEqual(self.check((0, rows + (("drop", "x"),) + asks)), (("many",), ("many",)))

    def test_more_places_than_fewest_takes(self):
        rows = (("make", "y"),) * 10 + LOOSE + (("weak", "r", "g", "r"),) * 7 + (ASK,)
        self.assertRaises(TooMany, Keeps().fewest, (0, rows))
        self.assertEqual(keeps((0, rows)), ("keeps", (11,)))
        self.assertEqual(pauses((0, rows)), ("many",))
        rows = (("make", "y"),) * 25 + LOOSE + (ASK,)
        self.assertEqual((keeps((0, rows)), pauses((0, rows))), (("keeps", (26,)), ("pauses", (29,))))

    def test_too_many(self):
        for program in ((0, MANY), (1, (("if", ("given", 0), MANY, ()),)), (1, (("if", ("given", 0), LOOSE + (ASK,) * 5, MANY),))):
            for function in (keeps, pauses):
                with self.assertRaises(TooMany) as caught:
                    function(program)
                self.assertIsInstance(caught.exception, GoneError)
        self.assertEqual((keeps((0, ENOUGH)), pauses((0, ENOUGH))), (("keeps", (1,)), ("many",)))

    def test_too_many_although_sure(self):
        quiet = ("take", "y", "r", "f"), ("drop", "y")
        for function in (keeps, pauses):
            self.assertRaises(TooMany, function, (0, LOOSE + (("repeat", 8, quiet * 8),)))

    def small(self, seed, many):
        source = random.Random(seed)
        for _ in range(many):
            yield small_program(source)

    def test_all_tuples_of_small_programs(self):
        counts = {}
        for program in self.small(75, 120):
            if size(program[1]) <= 18:
                found = self.check(program)
                for one in found:
                    shown = (one[0], len(one[1:]) and len(one[1]))
                    counts[shown] = counts.get(shown, 0) + 1
        for shown in (("keeps", 0), ("keeps", 1), ("keeps", 2), ("pauses", 1), ("pauses", 2), ("pauses", 3), ("many", 0)):
            self.assertGreater(counts.get(shown, 0), 3, counts)

    def test_all_runs_of_the_changed_programs(self):
        # Decided by the runs themselves, not by noticed.
        tried = 0
        for program in self.small(76, 200):
            kept, paused = keeps(program), pauses(program)
            changed = program if kept == ("many",) else slow_applied("keeps", program, kept[1])
            for inputs in each_inputs(program):
                plain = slow_run(program, inputs)[0][:2]
                runs = all_runs(program, inputs, () if paused == ("many",) else paused[1], 400)
                if runs is not None and paused != ("many",):
                    self.assertEqual({row[:2] for row in runs.values()}, {plain})
                    tried += len(runs) > 1 and len(paused[1]) > 0
                runs = all_runs(changed, inputs, (), 400)
                if runs is not None and kept != ("many",):
                    self.assertEqual({row[:2] for row in runs.values()}, {slow_run(changed, inputs)[0][:2]})
                    tried += len(runs) > 1 and len(kept[1]) > 0
        self.assertGreater(tried, 80)


class BeyondTheBounds(unittest.TestCase):

    def test_functions_accept_what_fixes_have_changed(self):
        rows = LOOSE + (("repeat", 12, (("make", "y"),) * 15), ASK)
        program = (0, rows)
        self.assertIsNone(program_error(program))
        once = Keeps().applied(program, make_places(program)[2:])
        twice = Keeps().applied(once, make_places(once)[2:])
        self.assertEqual(program_error(twice), (None, "places"))
        self.assertEqual(size(twice[1]), 51)
        self.assertEqual(make_places(twice)[:4], (0, 1, 5, 8))
        self.assertEqual(len(there_at(twice, ())), 4 + 1 + 12 * 45 + 1)
        self.assertEqual(run(twice, (), ((545, 1),))[0], (("no",),))
        self.assertEqual([row[0] for row in ways(twice, ())], [(0,), (1,)])
        self.assertEqual(len(led_run(twice, (), (0,))[3]), 546)
        self.assertEqual(noticed(twice), ((), ((545, 1),)))
        self.assertEqual(keeps(twice), ("keeps", (1,)))
        self.assertEqual(pauses(twice), ("many",))
        self.assertIsNone(alike(twice, program))
        self.assertIsNone(noticed(Strongs().applied(twice, (2,))))
        self.assertEqual(Strongs().fewest(twice), (2,))
        self.assertEqual(len(list(each_statement(twice))), 51)

    def test_weight_alone(self):
        program = (0, (("repeat", 12, (("make", "y"),) * 16), ("say", "a")))
        self.assertIsNone(program_error(program))
        changed = Keeps().applied(program, (1,))
        self.assertEqual(program_error(changed), (None, "weight"))
        self.assertEqual(keeps(changed), ("keeps", ()))


if __name__ == "__main__":
    unittest.main()
