"""Bench: its edits and their errors, its queries, undo and redo. Attempts stand in test_attempts.py."""

import copy
import random
import unittest

from altering import ODD, nested
from exploring import small_program
from maybegone.benches import Bench, SureBench
from maybegone.bounds import MAX_EDITS
from maybegone.errors import (
    BadInputs, BadPauses, BadPlan, BadProgram, GoneError, NoMake, NoPause, NoPauses, NoPlace, NothingToRedo, NothingToUndo,
    NoVersion, NoWeak, PauseThere, TooMany, TooManyEdits,
)
from maybegone.fixes import Keeps, Strongs
from maybegone.programs import program_error
from maybegone.runs import run
from maybegone.verdicts import noticed
from maybegone.ways import ways
from modelling import Fault, SlowBench
from reference import random_plan, random_statement, size

ASK = ("ask", ("full", "r", "f"))
LOOSE = (("make", "r"), ("make", "x"), ("weak", "r", "f", "x"), ("drop", "x"))
PROGRAM = (0, LOOSE + (ASK,))
# 65 records, and just 64.
MANY = LOOSE + (("repeat", 12, (ASK,) * 5),) + (ASK,) * 4
# Places: 0; 1 with 2, 3 in yes and 4 in no; 5 with 6, and 7, 8 in it; 9.
DEEP = (1, (("make", "r"), ("if", ("given", 0), (("make", "x"), ("weak", "r", "f", "x")), (("say", "a"),)),
            ("repeat", 2, (("repeat", 3, (("make", "y"), ("drop", "y"))),)), ("say", "b")))


def seen(bench):
    """All that a bench tells of itself, but for redo."""
    states = tuple(bench.state(version=k) for k in range(len(bench) + 1))
    return (bench.program, bench.pauses, len(bench), str(bench), bench.edits(), bench.state(), states)


def fault_of(error):
    """An error as a tuple of the name of its class and its fields."""
    return (type(error).__name__,) + tuple(vars(error).values())


class Raising(unittest.TestCase):

    def raises(self, error, function, *arguments, **more):
        """Checks that this very error is raised."""
        with self.assertRaises(type(error)) as caught:
            function(*arguments, **more)
        self.assertIs(type(caught.exception), type(error))
        self.assertEqual(vars(caught.exception), vars(error))
        for value, other in zip(vars(caught.exception).values(), vars(error).values()):
            self.assertIs(type(value), type(other))


class Constructor(Raising):

    def test_attributes(self):
        bench = Bench(PROGRAM, (1, 4))
        self.assertEqual((bench.program, bench.pauses), (PROGRAM, (1, 4)))
        self.assertEqual((Bench(PROGRAM).pauses, Bench(program=PROGRAM, pauses=()).pauses), ((), ()))
        self.assertEqual((Bench.MOST_EDITS, bench.MOST_EDITS, SureBench.MOST_EDITS), (MAX_EDITS,) * 3)
        self.assertLessEqual({"program", "pauses"}, set(vars(bench)))

    def test_programs_that_are_none(self):
        for owner in (Bench, SureBench):
            for value in ODD + tuple(nested(20)) + ((0, (("make", "x"), ("mak", "y"))), (0, [("make", "x")]), (0, (("make", "x"),) * 31), (4, ()), (True, ())):
                self.raises(BadProgram(program_error(value)), owner, value)
                # The pauses do not count then.
                self.raises(BadProgram(program_error(value)), owner, value, value)

    def test_pauses_that_are_none(self):
        for owner in (Bench, SureBench):
            for value in ((5,), (-1,), (1, 0), (1, 1), [0], [], (True,), (False, 1), None, "", "0", 0, {}, {0: 1}, ((0,),), (0, None), (0, 1, 2, 3, 4, 5), (10 ** 59,)):
                self.raises(BadPauses(value), owner, PROGRAM, value)
            self.raises(BadPauses((0,)), owner, (0, ()), (0,))
        for value in ((), (0,), (4,), (0, 1, 2, 3, 4)):
            self.assertEqual(Bench(PROGRAM, value).pauses, value)

    def test_programs_that_fixes_have_changed(self):
        program = (0, (("repeat", 12, (("make", "x"), ("make", "y")) * 8), ("say", "a")))
        for changed, word in ((Keeps().applied(program, (1, 2, 3)), "weight"), (Keeps().applied(program, tuple(range(1, 17))), "places")):
            for owner in (Bench, SureBench):
                self.raises(BadProgram((None, word)), owner, changed)
        self.assertEqual(Bench(Strongs().applied(PROGRAM, (2,))).program[1][2], ("hold", "r", "f", "x"))


class Edits(Raising):

    def unchanged(self, error, bench, name, *values):
        """Checks that the edit raises the error, and that nothing changes then."""
        before = seen(bench)
        self.raises(error, getattr(bench, name), *values)
        self.assertEqual(seen(bench), before)

    def test_add(self):
        bench = Bench((0, ()))
        self.assertEqual([bench.add(("make", "x")), bench.add(("repeat", 2, (("make", "y"),)))], [1, 2])
        self.assertEqual(bench.program, (0, (("make", "x"), ("repeat", 2, (("make", "y"),)))))
        self.assertEqual(bench.edits(), (("add", ("make", "x")), ("add", ("repeat", 2, (("make", "y"),)))))
        bench = Bench(DEEP, (0, 3, 9))
        bench.add(("say", "c"))
        self.assertEqual((bench.program[1][-1], bench.pauses), (("say", "c"), (0, 3, 9)))

    def test_add_what_is_no_statement(self):
        bench = Bench(PROGRAM, (4,))
        for value in ODD + tuple(nested(20)) + (["make", "x"], ("make", "X"), ("make",), ("make", "x", "y"), ("ask", ("given", 0)), ("repeat", 13, ()), ("if", ("set", "x"), ())):
            self.unchanged(BadProgram((5, "statement")), bench, "add", value)
        self.unchanged(BadProgram((6, "statement")), bench, "add", ("repeat", 2, (None,)))
        self.unchanged(BadProgram((5, "statement")), bench, "add", ("repeat", 2, [("make", "x")]))
        deep = ("make", "x")
        for _ in range(5):
            deep = ("repeat", 1, (deep,))
        self.unchanged(BadProgram((10, "nest")), bench, "add", deep)

    def test_add_beyond_the_bounds(self):
        bench = Bench((0, (("make", "x"),) * 30))
        self.unchanged(BadProgram((None, "places")), bench, "add", ("make", "x"))
        bench = Bench((0, (("repeat", 12, (("make", "x"),) * 16),)))
        self.unchanged(BadProgram((None, "weight")), bench, "add", ("repeat", 7, (("say", "a"),)))
        self.assertEqual(bench.add(("repeat", 6, (("say", "a"),))), 1)
        bench = Bench((0, tuple(("wish", "x", word) for word in "abcd")))
        self.unchanged(BadProgram((None, "wishes")), bench, "add", ("wish", "x", "e"))
        self.assertEqual(bench.add(("wish", "x", "d")), 1)

    def test_drop(self):
        everywhere = tuple(range(10))
        for place, block, pauses in (
                (0, DEEP[1][1:], tuple(range(9))), (9, DEEP[1][:-1], tuple(range(9))), (1, DEEP[1][:1] + DEEP[1][2:], tuple(range(6))),
                (5, DEEP[1][:2] + DEEP[1][3:], tuple(range(6))), (6, DEEP[1][:2] + (("repeat", 2, ()),) + DEEP[1][3:], tuple(range(7))),
                (4, DEEP[1][:1] + (("if", ("given", 0), DEEP[1][1][2], ()),) + DEEP[1][2:], tuple(range(9))),
                (2, DEEP[1][:1] + (("if", ("given", 0), DEEP[1][1][2][1:], DEEP[1][1][3]),) + DEEP[1][2:], tuple(range(9)))):
            bench = Bench(DEEP, everywhere)
            self.assertEqual(bench.drop(place), 1)
            self.assertEqual((bench.program, bench.pauses), ((1, block), pauses))
        bench = Bench(DEEP, (0, 2, 4, 7, 9))
        self.assertEqual([bench.drop(1), bench.pauses, bench.drop(2), bench.pauses, bench.drop(0), bench.pauses], [1, (0, 3, 5), 2, (0, 2), 3, (1,)])
        self.assertEqual(bench.program, (1, (("repeat", 2, ()), ("say", "b"))))

    def test_change(self):
        bench = Bench(DEEP, tuple(range(10)))
        self.assertEqual(bench.change(1, ("say", "c")), 1)
        self.assertEqual((bench.program, bench.pauses), ((1, (DEEP[1][0], ("say", "c")) + DEEP[1][2:]), (0, 2, 3, 4, 5, 6)))
        self.assertEqual(bench.change(0, ("repeat", 1, (("say", "a"), ("if", ("set", "x"), (("say", "b"),), (("say", "c"),))))), 2)
        self.assertEqual(bench.pauses, (6, 7, 8, 9, 10))
        bench.pause(3)
        self.assertEqual(bench.change(3, ("say", "d")), 4)
        self.assertEqual((bench.pauses, bench[3]), ((6, 7, 8, 9, 10), ("say", "d")))
        bench = Bench(DEEP, (0, 3, 9))
        self.assertEqual(bench.change(3, ("make", "z")), 1)
        self.assertEqual((bench.pauses, bench[3], bench[1][3]), ((0, 9), ("make", "z"), (("say", "a"),)))
        bench.change(3, ("make", "z"))
        self.assertEqual((bench.pauses, bench.edits()), ((0, 9), (("change", 3, ("make", "z")),) * 2))

    def test_change_to_what_is_no_program(self):
        bench = Bench(DEEP, (3, 9))
        for value in ODD + tuple(nested(20)) + (["say", "a"], ("ask", ("given", 1))):
            self.unchanged(BadProgram((3, "statement")), bench, "change", 3, value)
        self.unchanged(BadProgram((6, "statement")), bench, "change", 5, ("repeat", 2, (None,)))
        self.unchanged(BadProgram((None, "places")), bench, "change", 5, ("repeat", 1, (("say", "a"),) * 25))
        self.assertEqual(bench.change(5, ("repeat", 1, (("say", "a"),) * 23)), 1)
        self.assertEqual(bench.pauses, (3, 29))
        deep = ("repeat", 1, (("repeat", 1, (("repeat", 1, ()),)),))
        bench = Bench(DEEP)
        self.unchanged(BadProgram((10, "nest")), bench, "change", 7, ("repeat", 1, (deep,)))
        self.assertEqual(bench.change(7, deep), 1)
        # The first error of the whole program is told, at the place that the statement would have.
        self.unchanged(BadProgram((None, "weight")), bench, "change", 0, ("repeat", 12, (("repeat", 12, (("say", "a"),) * 2),)))

    def test_keep(self):
        bench = Bench(DEEP, tuple(range(10)))
        self.assertEqual(bench.keep(2), 1)
        self.assertEqual(bench.program[1][1][2], (("make", "x"), ("keep", "x"), ("weak", "r", "f", "x")))
        self.assertEqual(bench.pauses, (0, 1, 2, 4, 5, 6, 7, 8, 9, 10))
        self.assertEqual(bench.keep(8), 2)
        self.assertEqual(bench.program[1][2], ("repeat", 2, (("repeat", 3, (("make", "y"), ("keep", "y"), ("drop", "y"))),)))
        self.assertEqual(bench.pauses, (0, 1, 2, 4, 5, 6, 7, 8, 10, 11))
        self.assertEqual([bench.keep(0), bench.keep(0), bench.program[1][:3]], [3, 4, (("make", "r"), ("keep", "r"), ("keep", "r"))])
        self.assertEqual(bench.edits(), (("keep", 2), ("keep", 8), ("keep", 0), ("keep", 0)))

    def test_keep_where_nothing_is_made(self):
        bench = Bench(DEEP, (2,))
        for place in (1, 3, 4, 5, 6, 8, 9):
            self.unchanged(NoMake(place), bench, "keep", place)
        bench = Bench((0, (("make", "x"),) * 30))
        self.unchanged(BadProgram((None, "places")), bench, "keep", 7)
        bench = Bench((0, (("repeat", 12, (("make", "x"),) * 16),)))
        self.unchanged(BadProgram((None, "weight")), bench, "keep", 16)

    def test_hold(self):
        bench = Bench(DEEP, tuple(range(10)))
        self.assertEqual(bench.hold(3), 1)
        self.assertEqual((bench[3], bench.pauses), (("hold", "r", "f", "x"), tuple(range(10))))
        self.unchanged(NoWeak(3), bench, "hold", 3)
        for place in (0, 1, 2, 4, 5, 6, 7, 8, 9):
            self.unchanged(NoWeak(place), bench, "hold", place)

    def test_pause_and_resume(self):
        bench = Bench(PROGRAM)
        self.assertEqual([bench.pause(3), bench.pause(0), bench.pause(4), bench.pauses], [1, 2, 3, (0, 3, 4)])
        for place in (0, 3, 4):
            self.unchanged(PauseThere(place), bench, "pause", place)
        for place in (1, 2):
            self.unchanged(NoPause(place), bench, "resume", place)
        self.assertEqual([bench.resume(3), bench.pauses, bench.resume(0), bench.resume(4), bench.pauses], [4, (0, 4), 5, 6, ()])
        self.unchanged(NoPause(3), bench, "resume", 3)
        self.assertEqual(bench.program, PROGRAM)

    def test_places_that_are_none(self):
        bench = Bench(PROGRAM, (1,))
        for value in ODD + tuple(nested(20)) + (5, -1, -5, True, False, "0", (0,), [0], 10 ** 59):
            if value == 0 and value is not False or value == 1 and value is not True:
                continue
            for name in ("drop", "keep", "hold", "pause", "resume"):
                self.unchanged(NoPlace(value), bench, name, value)
            self.unchanged(NoPlace(value), bench, "change", value, ("say", "a"))
            # The place is looked at ahead of the statement.
            self.unchanged(NoPlace(value), bench, "change", value, None)
            self.raises(NoPlace(value), bench.__getitem__, value)
        for name in ("drop", "keep", "hold", "pause", "resume"):
            with self.assertRaises(LookupError) as caught:
                getattr(Bench((0, ())), name)(0)
            self.assertNotIsInstance(caught.exception, GoneError)

    def test_values_are_those_that_were_passed(self):
        value = [1, {"a": []}]
        for function in (Bench(PROGRAM).drop, Bench(PROGRAM).__getitem__):
            with self.assertRaises(NoPlace) as caught:
                function(value)
            self.assertIs(caught.exception.place, value)

    def test_pause_fewest(self):
        bench = Bench(PROGRAM, (0, 1))
        self.assertEqual([bench.pause_fewest(), bench.pauses, bench.verdict(), bench.edits()], [1, (4,), None, (("pause_fewest",),)])
        self.assertEqual([bench.hold(2), bench.pause_fewest(), bench.pauses], [2, 3, ()])
        # The present pauses do not count.
        bench = Bench((0, LOOSE + (("say", "a"), ASK)), (4,))
        self.assertEqual([bench.pause_fewest(), bench.pauses], [1, (4, 5)])

    def test_pause_fewest_that_cannot_be(self):
        bench = Bench((0, LOOSE + (("say", "a"),) * 3 + (ASK,)), (1,))
        self.unchanged(NoPauses(), bench, "pause_fewest")
        # There are too many records with nothing paused.
        bench = Bench((0, MANY), tuple(range(size(MANY))))
        self.assertIsNone(bench.verdict())
        self.unchanged(TooMany(), bench, "pause_fewest")
        bench = Bench((0, MANY[:-1]))
        self.unchanged(NoPauses(), bench, "pause_fewest")


class Signs(Raising):

    def test_items(self):
        bench = Bench(DEEP)
        self.assertEqual([bench[k] for k in (0, 1, 3, 8, 9)], [DEEP[1][0], DEEP[1][1], ("weak", "r", "f", "x"), ("drop", "y"), ("say", "b")])
        bench[3] = ("say", "c")
        self.assertEqual((bench[3], len(bench), bench.edits()), (("say", "c"), 1, (("change", 3, ("say", "c")),)))
        for place in (10, -1, "0", None, True):
            self.raises(NoPlace(place), bench.__getitem__, place)
            with self.assertRaises(NoPlace):
                bench[place] = ("say", "a")
        with self.assertRaises(BadProgram):
            bench[0] = None
        self.assertEqual(len(bench), 1)

    def test_signs_are_edits_of_the_very_same_bench(self):
        bench = held = Bench(PROGRAM)
        bench += ("say", "a")
        self.assertIs(bench, held)
        self.assertEqual((bench.edits(), bench[5]), ((("add", ("say", "a")),), ("say", "a")))
        bench -= 4
        self.assertIs(bench, held)
        self.assertEqual((bench.edits()[1:], bench[4]), ((("drop", 4),), ("say", "a")))
        bench |= (1, 3)
        self.assertIs(bench, held)
        self.assertEqual((bench.edits()[2:], bench.pauses), ((("pause_all", (1, 3)),), (1, 3)))
        self.assertEqual([bench.undo(), bench.undo(), bench.undo(), bench.program], [2, 1, 0, PROGRAM])

    def test_errors_of_signs(self):
        bench = held = Bench(PROGRAM, (1,))
        before = seen(bench)
        with self.assertRaises(BadProgram) as caught:
            bench += ("say",)
        self.assertEqual(caught.exception.error, (5, "statement"))
        for place in (5, -1, None, (0,)):
            with self.assertRaises(NoPlace):
                bench -= place
        for places in ((5,), (1, 0), (1, 1), [1], None, 3, (True,), "12", {}):
            with self.assertRaises(BadPauses) as caught:
                bench |= places
            self.assertIs(caught.exception.value, places)
        self.assertIs(bench, held)
        self.assertEqual(seen(bench), before)

    def test_pause_all(self):
        bench = Bench(PROGRAM, (1, 3))
        bench |= (0, 3, 4)
        self.assertEqual(bench.pauses, (0, 1, 3, 4))
        bench |= ()
        bench |= (1,)
        self.assertEqual((bench.pauses, len(bench), bench.edits()[1:]), ((0, 1, 3, 4), 3, (("pause_all", ()), ("pause_all", (1,)))))
        self.assertEqual([bench.undo(), bench.undo(), bench.undo(), bench.pauses, bench.redo(), bench.pauses], [2, 1, 0, (1, 3), 1, (0, 1, 3, 4)])

    def test_a_bench_is_not_iterated_over(self):
        self.assertRaises(TypeError, list, Bench(PROGRAM))

    def test_length_text_and_truth(self):
        bench = Bench(DEEP, (1, 2))
        self.assertEqual((len(bench), str(bench), bool(bench)), (0, "10 statements, 2 pauses, 0 edits", False))
        bench.drop(5)
        self.assertEqual((len(bench), str(bench), bool(bench)), (1, "6 statements, 2 pauses, 1 edits", True))
        bench.drop(1)
        self.assertEqual((len(bench), str(bench)), (2, "2 statements, 0 pauses, 2 edits"))
        bench.pause(0)
        bench.undo()
        self.assertEqual((len(bench), str(bench)), (2, "2 statements, 0 pauses, 2 edits"))
        self.assertEqual(str(Bench((0, ()))), "0 statements, 0 pauses, 0 edits")
        self.assertEqual(str(SureBench((0, (("make", "x"),)), (0,))), "1 statements, 1 pauses, 0 edits")

    def test_equality(self):
        one, other = Bench(PROGRAM, (1,)), Bench(PROGRAM)
        self.assertFalse(one == other)
        self.assertTrue(one != other)
        other.pause(1)
        self.assertTrue(one == other)
        self.assertFalse(one != other)
        other.add(("say", "a"))
        self.assertFalse(one == other)
        other.undo()
        other.undo()
        self.assertTrue(other == Bench(PROGRAM))
        self.assertFalse(Bench((0, ())) == Bench((1, ())))
        for value in (None, 0, True, "", (), (PROGRAM, (1,)), one.state(), [one], {}, PROGRAM, object()):
            self.assertFalse(one == value)
            self.assertTrue(one != value)
            self.assertFalse(value == one)

    def test_sure_benches_are_equal_to_sure_benches_alone(self):
        program = (0, (("make", "x"),))
        self.assertTrue(SureBench(program) == SureBench(program))
        self.assertFalse(SureBench(program) == SureBench(program, (0,)))
        for one, other in ((Bench(program), SureBench(program)), (SureBench(program), Bench(program))):
            self.assertFalse(one == other)
            self.assertTrue(one != other)


class UndoAndRedo(Raising):

    def test_nothing_to_undo_or_redo(self):
        bench = Bench(PROGRAM)
        self.raises(NothingToUndo(), bench.undo)
        self.raises(NothingToRedo(), bench.redo)
        bench.pause(0)
        self.raises(NothingToRedo(), bench.redo)
        self.assertEqual(bench.undo(), 0)
        self.raises(NothingToUndo(), bench.undo)
        self.assertEqual(bench.redo(), 1)
        self.raises(NothingToRedo(), bench.redo)

    def test_in_any_order(self):
        bench = Bench((0, ()))
        versions = [seen(bench)]
        for name in "abcde":
            bench.add(("make", name))
            versions.append(seen(bench))
        for move in (-1, -1, 1, -1, -1, -1, -1, 1, 1, 1, -1, 1, 1, 1):
            before = len(bench)
            self.assertEqual(bench.undo() if move < 0 else bench.redo(), before + move)
            self.assertEqual(seen(bench), versions[before + move])

    def test_edits_behind_undo(self):
        bench = Bench((0, ()))
        for name in "abc":
            bench.add(("make", name))
        bench.undo()
        bench.undo()
        # An edit that raises an error forgets nothing.
        self.assertRaises(NoPlace, bench.drop, 7)
        self.assertRaises(BadProgram, bench.add, None)
        self.assertEqual([bench.redo(), bench.program[1][-1], bench.undo()], [2, ("make", "b"), 1])
        bench.add(("make", "z"))
        self.raises(NothingToRedo(), bench.redo)
        self.assertEqual((bench.program, bench.edits()), ((0, (("make", "a"), ("make", "z"))), (("add", ("make", "a")), ("add", ("make", "z")))))
        self.assertEqual([bench.undo(), bench.undo(), bench.program], [1, 0, (0, ())])

    def test_sixty_edits(self):
        bench = Bench(PROGRAM)
        for k in range(30):
            self.assertEqual([bench.pause(0), bench.resume(0)], [2 * k + 1, 2 * k + 2])
        self.assertEqual(len(bench), MAX_EDITS)
        before = seen(bench)
        for function, values in ((bench.add, (("say", "a"),)), (bench.add, (None,)), (bench.drop, (0,)), (bench.drop, (None,)), (bench.change, (9, None)), (bench.keep, (9,)),
                                 (bench.keep, (0,)), (bench.hold, (0,)), (bench.pause, (0,)), (bench.resume, (0,)), (bench.pause_fewest, ()), (bench.__setitem__, (0, ("say", "a"))),
                                 (bench.__iadd__, (("say", "a"),)), (bench.__isub__, (0,)), (bench.__ior__, ((0,),)), (bench.__ior__, (None,)), (bench.attempt, ([("pause", 0)],))):
            self.raises(TooManyEdits(), function, *values)
        self.assertEqual(seen(bench), before)
        self.assertEqual(bench.attempt([]), 0)
        self.assertEqual([bench.undo(), bench.redo(), bench.undo(), bench.pause(1)], [59, 60, 59, 60])
        self.raises(TooManyEdits(), bench.resume, 0)
        for k in range(59, -1, -1):
            self.assertEqual(bench.undo(), k)
        for k in range(1, 61):
            self.assertEqual(bench.redo(), k)
        self.raises(NothingToRedo(), bench.redo)


class Queries(Raising):

    def test_verdict(self):
        self.assertEqual(Bench(PROGRAM).verdict(), ((), ((4, 1),)))
        self.assertEqual([Bench(PROGRAM, (4,)).verdict(), Bench(PROGRAM, (3,)).verdict()], [None, ((), ((4, 1),))])
        self.raises(TooMany(), Bench((0, MANY)).verdict)
        self.assertIsNone(Bench((0, MANY), tuple(range(4, size(MANY)))).verdict())

    def test_outcome(self):
        bench = Bench(PROGRAM)
        self.assertEqual([bench.outcome((), ()), bench.outcome((), ((4, 1),))], [run(PROGRAM, ()), run(PROGRAM, (), ((4, 1),))])
        bench.pause(4)
        self.assertEqual(bench.outcome((), ((4, 1),)), run(PROGRAM, ()))
        bench = Bench(DEEP)
        self.assertEqual([bench.outcome((k,), ())[0] for k in (0, 1)], [(("said", "a"), ("said", "b")), (("said", "b"),)])

    def test_inputs_that_are_none(self):
        bench = Bench(DEEP)
        for value in ODD + tuple(nested(20)) + ((), (2,), (-1,), (True,), (0, 0), [0], "0", (None,), ((0,),)):
            self.raises(BadInputs(value), bench.outcome, value, ())
            self.raises(BadInputs(value), bench.outcome, value, value)
            self.raises(BadInputs(value), lambda: list(bench.each_way(value)))
        for value in ODD + ((0,), [], (1,)):
            if value != () or type(value) is list:
                self.raises(BadInputs(value), Bench(PROGRAM).outcome, value, ())

    def test_plans_that_are_none(self):
        bench = Bench(PROGRAM)
        for value in ODD + tuple(nested(20)) + (((4, 1), (4, 1)), ((5, 1), (4, 1)), ((4, 2), (4, 1)), [(4, 1)], ([4, 1],), ((4, True),), ((True, 4),), ((-1, 0),), ((0, -1),),
                                                ((10 ** 6 + 1, 0),), ((0, 10 ** 6 + 1),), ((4,),), ((4, 1, 0),), ((4, None),), "41", tuple((4, k) for k in range(401))):
            if value != () or type(value) is not tuple:
                self.raises(BadPlan(value), bench.outcome, (), value)
        for value in ((), ((10 ** 6, 10 ** 6),), ((0, 0), (10 ** 6, 0)), tuple((4, k) for k in range(400))):
            self.assertEqual(bench.outcome((), value), run(PROGRAM, (), value))

    def test_state(self):
        bench = Bench(PROGRAM, (1,))
        self.assertEqual((bench.state(), bench.state(version=0), bench.state(version=None)), ((PROGRAM, (1,)),) * 3)
        bench.drop(0)
        bench.pause(2)
        self.assertEqual([bench.state(version=k) for k in (0, 1, 2)], [(PROGRAM, (1,)), ((0, PROGRAM[1][1:]), (0,)), ((0, PROGRAM[1][1:]), (0, 2))])
        self.assertEqual(bench.state(), bench.state(version=2))
        self.assertIs(type(bench.state()), tuple)
        bench.undo()
        self.assertEqual(bench.state(), ((0, PROGRAM[1][1:]), (0,)))
        self.raises(NoVersion(2), bench.state, version=2)
        self.assertRaises(TypeError, bench.state, 1)

    def test_versions_that_are_none(self):
        bench = Bench(PROGRAM)
        bench.pause(0)
        for value in ODD + tuple(nested(20)) + (2, -1, -2, 10 ** 59, True, False, "0", "", (), [], {}, (0,)):
            if value is None or type(value) is int and 0 <= value <= 1:
                continue
            self.raises(NoVersion(value), bench.state, version=value)
            self.raises(NoVersion(value), lambda: list(bench.each_way((), version=value)))
            # The version is looked at ahead of the inputs.
            self.raises(NoVersion(value), lambda: list(bench.each_way(None, version=value)))
        with self.assertRaises(LookupError) as caught:
            bench.state(version=9)
        self.assertNotIsInstance(caught.exception, GoneError)

    def test_each_way(self):
        bench = Bench(PROGRAM)
        bench.pause(4)
        bench.change(2, ("hold", "r", "f", "x"))
        bench.resume(4)
        for version, program, paused in ((0, PROGRAM, ()), (1, PROGRAM, (4,)), (2, bench.program, (4,)), (3, bench.program, ()), (None, bench.program, ())):
            self.assertEqual(list(bench.each_way((), version=version)), list(ways(program, (), paused=paused)))
        self.assertEqual(list(bench.each_way(())), [((0,), (("yes",),), None, ())])
        self.raises(BadInputs([]), lambda: list(bench.each_way([], version=0)))
        self.assertRaises(TypeError, bench.each_way, (), 0)

    def test_each_way_is_a_generator(self):
        made = Bench(PROGRAM).each_way(())
        self.assertIs(iter(made), made)

    def test_too_many_ways(self):
        bench = Bench((1, (("if", ("given", 0), MANY, ()),)))
        self.raises(TooMany(), lambda: list(bench.each_way((1,))))
        self.assertEqual(len(list(bench.each_way((0,)))), 1)
        bench |= tuple(range(5, size(bench.program[1])))
        self.assertEqual(len(list(bench.each_way((1,)))), 1)
        self.raises(TooMany(), lambda: list(bench.each_way((1,), version=0)))

    def test_ways_that_are_gone_on_with_behind_an_edit(self):
        for version in (None, 0, 1):
            bench = Bench(PROGRAM)
            bench.add(ASK)
            rows = list(bench.each_way((), version=version))
            begun = bench.each_way((), version=version)
            found = [next(begun)]
            bench.drop(4)
            bench.pause(4)
            bench.undo()
            bench.undo()
            bench.undo()
            bench.hold(2)
            self.assertEqual(found + list(begun), rows)

    def test_edits(self):
        bench = Bench(DEEP, (0,))
        self.assertEqual(bench.edits(), ())
        bench.add(("say", "c"))
        bench.change(0, ("make", "q"))
        bench.keep(0)
        bench.hold(4)
        bench.pause(0)
        bench |= (1, 2)
        bench.pause_fewest()
        self.assertEqual(bench.edits(), (("add", ("say", "c")), ("change", 0, ("make", "q")), ("keep", 0), ("hold", 4), ("pause", 0), ("pause_all", (1, 2)), ("pause_fewest",)))
        bench.undo()
        self.assertEqual(len(bench.edits()), 6)
        self.assertIs(type(bench.edits()), tuple)

    def test_queries_change_nothing(self):
        bench = Bench(DEEP, (3,))
        bench.pause(0)
        bench.undo()
        before = seen(bench)
        for _ in range(2):
            self.assertEqual(bench.verdict(), bench.verdict())
            self.assertEqual(bench.outcome((0,), ()), bench.outcome((0,), ()))
            list(bench.each_way((1,)))
            bench == Bench(DEEP)
            bench[3]
        self.assertEqual(seen(bench), before)
        self.assertEqual(bench.redo(), 1)

    def test_two_benches_do_not_share_anything(self):
        one, other = Bench(PROGRAM), Bench(PROGRAM)
        one.pause(0)
        self.assertEqual((other.pauses, len(other), other.edits()), ((), 0, ()))
        self.assertRaises(NothingToUndo, other.undo)


class AgainstTheModel(unittest.TestCase):

    def statement(self, source, givens):
        row = random_statement(source, givens, source.choice((1, 2, 3)))
        return source.choice((row, row, row, row, None, list(row), ("say",), ("repeat", 13, (row,)), ("repeat", 2, (row, row)), ("if", ("set", "x"), (row,), (row, row))))

    def place(self, source, many):
        return source.choice((source.randrange(-1, many + 1), source.randrange(many + 1), source.randrange(many + 1), None, True, "1") if source.randrange(4) == 0 else (source.randrange(max(many, 1)),))

    def edit(self, source, slow):
        """An edit, which may be wrong."""
        givens, block = slow.now().program()
        many = size(block)
        weaks = [k for k, row in enumerate(self.rows(block)) if row[0] == "weak"] or [0]
        makes = [k for k, row in enumerate(self.rows(block)) if row[0] == "make"] or [0]
        place = self.place(source, many)
        name = source.choice("add add add drop change change keep keep hold hold pause pause pause resume resume".split())
        values = {"add": (self.statement(source, givens),), "change": (place, self.statement(source, givens))}.get(name, (place,))
        if source.randrange(2):
            values = {"keep": (source.choice(makes),), "hold": (source.choice(weaks),), "resume": (source.choice(slow.now().pauses() or (0,)),)}.get(name, values)
        return (name,) + values

    def rows(self, block):
        for row in block:
            yield row
            for inner in row[2:] if row[0] in ("if", "repeat") else ():
                yield from self.rows(inner)

    def step(self, source, slow):
        kind = source.randrange(20)
        if kind < 3:
            return ("undo",)
        if kind < 5:
            return ("redo",)
        if kind == 5:
            return ("pause_fewest",)
        if kind == 6:
            many = size(slow.now().program()[1])
            places = tuple(k for k in range(many) if source.randrange(3) == 0)
            return ("pause_all", source.choice((places, places, places, places + (many,), places[::-1] + (0,), list(places))))
        if kind < 10:
            items = [self.edit(source, slow) for _ in range(source.randrange(4))]
            if source.randrange(8) == 0:
                items = source.choice((None, items * 30, [("undo",)], items + [("pause_all", ())], items + [["pause", 0]], items + [("pause",)], tuple(items)))
            most = source.choice((None, 1, 2))
            return ("attempt", items, most)
        return self.edit(source, slow)

    def do(self, bench, step):
        """Does the step with the bench; returns what it returns, or its error."""
        name, values = step[0], step[1:]
        try:
            if name == "pause_all":
                bench.__ior__(values[0])
                return len(bench)
            if name == "attempt":
                done = []
                watch = None if values[1] is None else lambda held: done.append(1) or len(done) == values[1]
                return bench.attempt(values[0], watch=watch)
            if name == "change" and len(bench) % 2:
                bench[values[0]] = values[1]
                return len(bench)
            return getattr(bench, name)(*values)
        except (GoneError, NoPlace) as error:
            return fault_of(error)

    def slow_do(self, slow, step):
        try:
            return slow.do(step)
        except Fault as fault:
            return fault.told

    def compare(self, bench, slow):
        self.assertEqual((bench.program, bench.pauses), (slow.now().program(), slow.now().pauses()))
        self.assertEqual((len(bench), bench.edits()), (len(slow.told), tuple(slow.told)))
        self.assertEqual([bench.state(version=k) for k in range(len(bench) + 1)], [(state.program(), state.pauses()) for state in slow.states])
        statements = size(bench.program[1])
        self.assertEqual(str(bench), f"{statements} statements, {len(bench.pauses)} pauses, {len(bench)} edits")
        self.assertIsNone(program_error(bench.program))

    def test_plain_and_sure_benches(self):
        source = random.Random(131)
        counts = {}
        for number in range(60):
            program = small_program(source)
            while program_error(program) is not None:
                program = small_program(source)
            pauses = tuple(range(size(program[1]))) if number % 2 else ()
            owner = SureBench if number % 2 else Bench
            bench, slow = owner(program, pauses), SlowBench(program, pauses, owner is SureBench)
            for _ in range(50):
                step = self.step(source, slow)
                held = copy.deepcopy(step)
                expected, found = self.slow_do(slow, step), self.do(bench, step)
                self.assertEqual(found, expected, step)
                self.assertEqual(step, held)
                self.compare(bench, slow)
                shown = (owner.__name__, found[0] if type(found) is tuple else step[0])
                counts[shown] = counts.get(shown, 0) + 1
            self.check_queries(source, bench)
            self.check_replay(bench)
        for name in "add drop change keep hold pause resume undo redo attempt pause_all pause_fewest BadProgram NoPlace PauseThere NoMake NothingToRedo Rejected".split():
            self.assertGreater(counts.get(("Bench", name), 0), 3, (name, counts))
        for name in "add drop pause undo redo attempt Unsure".split():
            self.assertGreater(counts.get(("SureBench", name), 0), 3, (name, counts))

    def check_replay(self, bench):
        """A new bench on which the edits that stand are done is the same one."""
        other = (SureBench if isinstance(bench, SureBench) else Bench)(*bench.state(version=0))
        for edit in bench.edits():
            if edit[0] == "pause_all":
                other |= edit[1]
            else:
                getattr(other, edit[0])(*edit[1:])
        self.assertTrue(bench == other)
        self.assertEqual(seen(bench), seen(other))

    def check_queries(self, source, bench):
        """A new bench with the same program and pauses tells the same."""
        other = Bench(bench.program, bench.pauses)
        self.assertEqual(bench == other, not isinstance(bench, SureBench))
        inputs = tuple(source.randrange(2) for _ in range(bench.program[0]))
        plan = random_plan(source, 30)
        self.assertEqual(bench.outcome(inputs, plan), run(bench.program, inputs, plan, paused=bench.pauses))
        try:
            self.assertEqual(bench.verdict(), noticed(bench.program, paused=bench.pauses))
            self.assertEqual(list(bench.each_way(inputs)), list(ways(bench.program, inputs, paused=bench.pauses)))
        except TooMany:
            self.assertRaises(TooMany, other.verdict)


if __name__ == "__main__":
    unittest.main()
