"""SureBench: its program is sure in each version, and each edit that would change this is refused."""

import random
import unittest

from altering import ODD
from exploring import small_program
from maybegone.benches import Bench, SureBench
from maybegone.errors import (
    BadPauses, BadProgram, Busy, GoneError, NoMake, NoPause, NoPauses, NoPlace, NothingToRedo, NothingToUndo, NoWeak,
    PauseThere, TooMany, TooManyEdits, Unsure,
)
from maybegone.programs import program_error
from maybegone.runs import run
from maybegone.verdicts import noticed
from reference import size
from test_benches import ASK, LOOSE, MANY, PROGRAM, Raising, seen

UNSURE = Unsure((), ((4, 1),))
QUIET = ("take", "y", "r", "f"), ("drop", "y")


class Constructor(Raising):

    def test_sure_programs(self):
        for program, pauses in ((PROGRAM, (4,)), ((0, ()), ()), ((0, LOOSE), ()), ((0, LOOSE + QUIET), (1, 2)), ((0, MANY), tuple(range(4, 14)))):
            bench = SureBench(program, pauses)
            self.assertEqual((bench.program, bench.pauses, bench.verdict(), len(bench)), (program, pauses, None, 0))
            self.assertIsInstance(bench, Bench)

    def test_programs_that_are_not_sure(self):
        self.raises(UNSURE, SureBench, PROGRAM)
        self.raises(UNSURE, SureBench, PROGRAM, (0, 1, 2, 3))
        program = (1, LOOSE + (("say", "a"), ("if", ("given", 0), (ASK,), ())))
        self.raises(Unsure(*noticed(program)), SureBench, program)
        self.raises(Unsure(*noticed(program, paused=(6,))), SureBench, program, (6,))
        with self.assertRaises(GoneError) as caught:
            SureBench(program)
        self.assertEqual((caught.exception.inputs, caught.exception.plan), noticed(program))

    def test_too_many(self):
        self.raises(TooMany(), SureBench, (0, MANY))
        self.raises(TooMany(), SureBench, (0, LOOSE + (("repeat", 8, QUIET * 8),)))
        self.raises(Unsure((), ((63, 1),)), SureBench, (0, MANY), tuple(range(9, 14)))

    def test_other_errors_go_ahead(self):
        self.raises(BadPauses((9,)), SureBench, PROGRAM, (9,))
        self.raises(BadProgram((None, "program")), SureBench, None, None)
        self.raises(BadPauses(None), SureBench, (0, MANY), None)


class Edits(Raising):

    def unchanged(self, error, bench, name, *values):
        before = seen(bench)
        self.raises(error, getattr(bench, name), *values)
        self.assertEqual(seen(bench), before)

    def test_each_edit_that_would_not_be_sure(self):
        self.unchanged(UNSURE, SureBench((0, LOOSE)), "add", ASK)
        self.unchanged(UNSURE, SureBench((0, LOOSE)), "__iadd__", ASK)
        self.unchanged(UNSURE, SureBench(PROGRAM, (4,)), "resume", 4)
        self.unchanged(UNSURE, SureBench(PROGRAM, (4,)), "change", 4, ASK)
        self.unchanged(UNSURE, SureBench((0, LOOSE + (("say", "a"),))), "change", 4, ASK)
        self.unchanged(UNSURE, SureBench((0, LOOSE + (("say", "a"),))), "__setitem__", 4, ASK)
        kept = (0, LOOSE[:2] + (("keep", "x"),) + LOOSE[2:] + (ASK,))
        self.unchanged(UNSURE, SureBench(kept), "drop", 2)
        self.unchanged(UNSURE, SureBench(kept), "__isub__", 2)
        self.unchanged(Unsure((), ((5, 1),)), SureBench(kept), "change", 2, ("say", "a"))
        # Strong references can be noticed, too: the wish of cell 1 tells whether it is cleared.
        rows = (("make", "x"), ("make", "y"), ("wish", "y", "w"), ("weak", "y", "f", "x"), ("drop", "y"), ("cut", "x", "f"), ("drop", "x"))
        self.assertEqual(SureBench((0, rows)).hold(3), 1)

    def test_keep_that_would_not_be_sure(self):
        # The cells that are kept are three, and then the run asks.
        rows = (("make", "r"), ("make", "x"), ("weak", "r", "f", "x"), ("drop", "x"), ("make", "r"), ("weak", "r", "f", "r"), ASK)
        bench = SureBench((0, rows))
        self.assertEqual([bench.keep(0), bench.keep(2), bench.hold(4), bench.verdict()], [1, 2, 3, None])

    def test_each_edit_that_would_have_too_many_ways(self):
        more = ("repeat", 12, (ASK,) * 5)
        self.unchanged(TooMany(), SureBench((0, LOOSE)), "add", ("repeat", 12, (ASK,) * 6))
        self.unchanged(TooMany(), SureBench((0, LOOSE + (("say", "a"),))), "change", 4, ("repeat", 12, (ASK,) * 6))
        kept = (0, LOOSE[:2] + (("keep", "x"),) + LOOSE[2:] + (more,) + (ASK,) * 4)
        self.unchanged(TooMany(), SureBench(kept), "drop", 2)
        # One place, at which it is asked 72 times.
        self.unchanged(TooMany(), SureBench((0, LOOSE + (("repeat", 12, (("repeat", 6, (ASK,)),)),)), (4, 5, 6)), "resume", 6)
        self.unchanged(Unsure((), ((82, 1),)), SureBench((0, LOOSE + (("repeat", 12, (("repeat", 6, (ASK,)),)),)), (4, 5, 6)), "resume", 5)

    def test_edits_that_keep_it_sure(self):
        bench = SureBench(PROGRAM, (4,))
        self.assertEqual([bench.hold(2), bench.resume(4), bench.keep(1), bench.add(ASK), bench.pause_fewest()], [1, 2, 3, 4, 5])
        self.assertEqual((bench.pauses, bench.verdict()), ((), None))
        bench |= (0, 1)
        self.assertEqual([bench.drop(2), bench.pauses, bench.verdict()], [7, (0, 1), None])

    def test_pause_fewest(self):
        bench = SureBench(PROGRAM, (0, 4))
        self.assertEqual([bench.pause_fewest(), bench.pauses], [1, (4,)])
        bench = SureBench((0, LOOSE + (("say", "a"),) * 3 + (ASK,)), (4, 5, 6, 7))
        self.unchanged(NoPauses(), bench, "pause_fewest")
        bench = SureBench((0, MANY), tuple(range(4, 14)))
        self.unchanged(TooMany(), bench, "pause_fewest")

    def test_other_errors_go_ahead(self):
        bench = SureBench(PROGRAM, (4,))
        self.unchanged(NoPlace(9), bench, "resume", 9)
        self.unchanged(NoPlace(None), bench, "change", None, None)
        self.unchanged(NoPause(0), bench, "resume", 0)
        self.unchanged(PauseThere(4), bench, "pause", 4)
        self.unchanged(NoMake(4), bench, "keep", 4)
        self.unchanged(NoWeak(4), bench, "hold", 4)
        self.unchanged(BadPauses((4, 4)), bench, "__ior__", (4, 4))
        for value in ODD:
            self.unchanged(BadProgram((4, "statement")), bench, "change", 4, value)
            self.unchanged(BadProgram((5, "statement")), bench, "add", value)
        # Here what would come is no program, and would not be sure either.
        self.unchanged(BadProgram((None, "places")), SureBench((0, LOOSE + (("say", "a"),) * 26)), "add", ASK)
        bench = SureBench((0, LOOSE))
        for _ in range(30):
            bench.pause(0)
            bench.resume(0)
        self.unchanged(TooManyEdits(), bench, "add", ASK)

    def test_refused_edits_forget_nothing(self):
        bench = SureBench((0, LOOSE))
        bench.add(("say", "a"))
        bench.pause(1)
        bench.undo()
        self.unchanged(Unsure((), ((5, 1),)), bench, "add", ASK)
        self.assertEqual([bench.redo(), bench.pauses], [2, (1,)])

    def test_undo_and_redo(self):
        bench = SureBench(PROGRAM, (4,))
        self.assertEqual([bench.hold(2), bench.resume(4), bench.undo(), bench.undo(), bench.redo(), bench.redo()], [1, 2, 1, 0, 1, 2])
        self.raises(NothingToRedo(), bench.redo)
        self.assertEqual([bench.undo(), bench.undo(), bench.verdict()], [1, 0, None])
        self.raises(NothingToUndo(), bench.undo)

    def test_undo_of_an_attempt_that_led_through_other_programs(self):
        bench = SureBench(PROGRAM, (4,))
        self.assertEqual(bench.attempt([("resume", 4), ("hold", 2), ("add", ASK)]), 3)
        self.assertEqual([bench.undo(), bench.pauses, bench.redo(), bench.pauses, bench.verdict()], [0, (4,), 1, (), None])

    def test_queries(self):
        bench = SureBench(PROGRAM, (4,))
        bench.hold(2)
        self.assertEqual(bench.outcome((), ((4, 1),)), run(bench.program, (), ((4, 1),), paused=(4,)))
        self.assertEqual(list(bench.each_way((), version=0)), [((0,), (("yes",),), None, ())])
        self.assertEqual((bench.state(version=0), bench.edits(), str(bench)), ((PROGRAM, (4,)), (("hold", 2),), "5 statements, 1 pauses, 1 edits"))

    def test_busy_goes_ahead_of_all(self):
        bench = SureBench(PROGRAM, (4,))

        def watch(held):
            self.raises(Busy(), held.resume, 4)
            self.raises(Busy(), held.resume, 99)

        self.assertEqual(bench.attempt([("pause", 0)], watch=watch), 1)


class EachVersion(unittest.TestCase):

    def test_random_edits(self):
        source = random.Random(141)
        refused = done = 0
        for _ in range(150):
            program = small_program(source)
            if program_error(program) is not None or noticed(program) is None:
                continue
            plain, sure = Bench(program), SureBench(program, tuple(range(size(program[1]))))
            plain |= tuple(range(size(program[1])))
            for _ in range(25):
                place = source.randrange(size(sure.program[1]))
                name, values = source.choice((("resume", (place,)), ("resume", (place,)), ("drop", (place,)), ("hold", (place,)), ("keep", (place,)), ("change", (place, ("say", "a"))),
                                              ("undo", ()), ("redo", ())))
                try:
                    before = seen(sure)
                    getattr(sure, name)(*values)
                    done += 1
                except Unsure as error:
                    self.assertEqual(seen(sure), before)
                    other = Bench(sure.program, sure.pauses)
                    getattr(other, name)(*values)
                    self.assertEqual((error.inputs, error.plan), other.verdict())
                    refused += 1
                except (GoneError, NoPlace) as error:
                    self.assertEqual(seen(sure), before)
                    self.assertNotIn(name, ("drop", "change") if type(error) is not NoPlace else ())
                self.assertIsNone(sure.verdict())
                for version in range(len(sure) + 1):
                    self.assertIsNone(noticed(sure.state(version=version)[0], paused=sure.state(version=version)[1]))
        self.assertGreater(refused, 20)
        self.assertGreater(done, 200)


if __name__ == "__main__":
    unittest.main()
