"""attempt: its items, its watches, and that all is as it was if it is ended by an error."""

import copy
import unittest

from altering import ODD, nested
from maybegone.benches import Bench, SureBench
from maybegone.bounds import BATCH, MAX_EDITS
from maybegone.consoles import Console
from maybegone.errors import (
    BadEdit, BadEdits, BadInputs, BadPlan, BadProgram, Busy, GoneError, NoPlace, NothingToRedo, NothingToUndo, NoVersion,
    Rejected, TooMany, TooManyEdits, Unsure,
)
from maybegone.runs import run
from maybegone.verdicts import noticed
from maybegone.ways import ways
from test_benches import DEEP, MANY, PROGRAM, Raising, seen

SAY = ("add", ("say", "a"))
# One item of each kind, right one behind the other for PROGRAM.
ALL = (("add", ("say", "a")), ("change", 5, ("say", "b")), ("keep", 0), ("hold", 3), ("pause", 1), ("resume", 1), ("drop", 6))


class Stop(BaseException):
    """What no handler for usual errors catches."""


class Oddly:
    """Its truth cannot be told."""

    def __init__(self, error):
        self.error = error

    def __bool__(self):
        raise self.error


class Noting:
    """A value that counts as true or not, and does something when it is asked."""

    def __init__(self, function, truth):
        self.function = function
        self.truth = truth

    def __bool__(self):
        self.function()
        return self.truth


class Items(Raising):

    def test_all_kinds(self):
        bench, plain = Bench(PROGRAM), Bench(PROGRAM)
        self.assertEqual(bench.attempt(ALL), 7)
        for item in ALL:
            getattr(plain, item[0])(*item[1:])
        self.assertTrue(bench == plain)
        self.assertEqual((len(bench), bench.edits()), (1, (("attempt", ALL),)))
        self.assertEqual([bench.undo(), bench.state(), bench.redo(), bench == plain], [0, (PROGRAM, ()), 1, True])

    def test_a_list_or_a_tuple(self):
        for edits in ([SAY, ("pause", 5)], (SAY, ("pause", 5))):
            bench = Bench(PROGRAM)
            held = copy.deepcopy(edits)
            self.assertEqual(bench.attempt(edits), 2)
            self.assertEqual(edits, held)
            self.assertEqual(bench.edits(), (("attempt", (SAY, ("pause", 5))),))
            self.assertEqual(bench.pauses, (5,))

    def test_no_items(self):
        bench = Bench(PROGRAM)
        bench.pause(0)
        bench.undo()
        called = []
        for edits in ([], ()):
            self.assertEqual(bench.attempt(edits), 0)
            self.assertEqual(bench.attempt(edits, watch=called.append), 0)
        self.assertEqual((called, len(bench), bench.edits(), bench.state()), ([], 0, (), (PROGRAM, ())))
        # And nothing is forgotten.
        self.assertEqual((bench.redo(), bench.pauses), (1, (0,)))

    def test_what_is_no_list_of_edits(self):
        bench = Bench(PROGRAM)
        before = seen(bench)
        for value in ODD + tuple(nested(20)):
            if type(value) not in (list, tuple) or len(value) > BATCH:
                self.raises(BadEdits(), bench.attempt, value)
            elif value:
                self.raises(BadEdit(0), bench.attempt, value)
        self.raises(BadEdits(), bench.attempt, {"add": ("say", "a")})
        self.assertEqual(seen(bench), before)

    def test_twenty_items_and_more(self):
        self.assertEqual(BATCH, 20)
        for kind in (list, tuple):
            bench = Bench((0, ()))
            self.raises(BadEdits(), bench.attempt, kind([SAY] * 21))
            self.raises(BadEdits(), bench.attempt, kind([None] * 21))
            self.assertEqual(bench.attempt(kind([SAY] * 20)), 20)
            self.assertEqual((len(bench), len(bench.program[1])), (1, 20))

    def test_items_that_are_none(self):
        bench = Bench(PROGRAM)
        before = seen(bench)
        wrong = (("add",), ("add", 1, 2), ("drop",), ("drop", 0, 0), ("change", 0), ("change", 0, ("say", "a"), 1), ("keep",), ("hold",), ("pause",), ("resume", 1, 1), (), ("undo",),
                 ("redo",), ("pause_fewest",), ("pause_all", (0,)), ("attempt", ()), ("attempt", (), None), ["pause", 0], "pause", ("Pause", 0), (None, 0), (["pause"], 0), ("", 0), ("make", "x"))
        for item in wrong + ODD + tuple(nested(20)):
            if item in (("x", "y", "z"),):
                continue
            for ahead in ([], [SAY], [("pause", 99)], [SAY] * 19):
                self.raises(BadEdit(len(ahead)), bench.attempt, ahead + [item])
                self.raises(BadEdit(len(ahead)), bench.attempt, (ahead + [item] + [None, SAY])[:20])
        self.assertEqual(seen(bench), before)

    def test_the_values_may_be_any(self):
        bench = Bench(PROGRAM)
        before = seen(bench)
        for value in ODD + tuple(nested(20)):
            for name in ("add", "drop", "keep", "hold", "pause", "resume"):
                if value is None or type(value) is not int or not 0 <= value < 5:
                    self.raises(Rejected(1), bench.attempt, [SAY, (name, value)])
            self.raises(Rejected(2), bench.attempt, [SAY, SAY, ("change", 0, value)])
        self.assertEqual(seen(bench), before)

    def test_rejected(self):
        bench = Bench(PROGRAM, (1,))
        bench.pause(0)
        bench.pause(2)
        bench.undo()
        before = seen(bench)
        for wrong in (("add", ("say",)), ("drop", 9), ("drop", True), ("change", 9, None), ("change", 0, None), ("keep", 2), ("keep", 77), ("hold", 0), ("pause", 0), ("resume", 4), ("pause", -1)):
            self.raises(Rejected(0), bench.attempt, [wrong])
            self.raises(Rejected(3), bench.attempt, (SAY, ("drop", 5), ("add", ("say", "b")), wrong, SAY))
        self.assertEqual(seen(bench), before)
        # Redo knows still what was undone.
        self.assertEqual((bench.redo(), bench.pauses), (2, (0, 1, 2)))

    def test_rejected_by_the_bounds(self):
        bench = Bench((0, (("make", "x"),) * 29))
        self.raises(Rejected(1), bench.attempt, [SAY, SAY, ("drop", 0)])
        self.assertEqual(bench.attempt([SAY, ("drop", 0), SAY]), 3)

    def test_what_an_item_sees_is_what_the_ones_ahead_have_done(self):
        bench = Bench(DEEP, (0, 9))
        self.assertEqual(bench.attempt([("drop", 1), ("pause", 2), ("keep", 0), ("change", 1, ("say", "z")), ("resume", 3), ("pause", 3)]), 6)
        self.assertEqual(bench.state(), ((1, (("make", "r"), ("say", "z"), DEEP[1][2], ("say", "b"))), (0, 3, 6)))

    def test_an_attempt_is_forgotten_as_a_whole(self):
        bench = Bench(PROGRAM)
        bench.pause(0)
        bench.attempt([SAY, ("pause", 1), ("pause", 5)])
        bench.drop(5)
        self.assertEqual((len(bench), bench.edits()[1]), (3, ("attempt", (SAY, ("pause", 1), ("pause", 5)))))
        self.assertEqual([bench.undo(), bench.pauses, bench.undo(), bench.pauses, bench.undo()], [2, (0, 1, 5), 1, (0,), 0])
        self.assertEqual([bench.redo(), bench.redo(), bench.pauses, bench.redo(), bench.pauses], [1, 2, (0, 1, 5), 3, (0, 1)])
        bench.undo()
        bench.undo()
        bench.attempt([("pause", 4)])
        self.raises(NothingToRedo(), bench.redo)
        self.assertEqual(bench.pauses, (0, 4))

    def test_sixty_edits(self):
        bench = Bench(PROGRAM)
        for k in range(MAX_EDITS - 1):
            self.assertEqual(bench.attempt([("pause", 1), ("resume", 1)] * 10), 20)
        self.assertEqual(len(bench), 59)
        # It counts once, whatever the number of its items.
        self.assertEqual(bench.attempt([("pause", 1), ("pause", 0)]), 2)
        self.assertEqual(len(bench), 60)
        before = seen(bench)
        called = []
        for edits in ([SAY], [("drop", 99)], (("pause", 0),) * 20):
            self.raises(TooManyEdits(), bench.attempt, edits)
            self.raises(TooManyEdits(), bench.attempt, edits, watch=called.append)
        self.raises(BadEdits(), bench.attempt, None)
        self.raises(BadEdit(0), bench.attempt, [None])
        self.assertEqual((bench.attempt([]), bench.attempt((), watch=called.append), called), (0, 0, []))
        self.assertEqual(seen(bench), before)
        self.assertEqual([bench.undo(), bench.attempt([SAY])], [59, 1])
        self.assertEqual(len(bench), 60)

    def test_watch_is_passed_by_keyword(self):
        self.assertRaises(TypeError, Bench(PROGRAM).attempt, [SAY], None)


class Watches(Raising):

    def test_after_each_item(self):
        bench = Bench(PROGRAM)
        found = []
        self.assertEqual(bench.attempt(ALL, watch=lambda held: found.append((held is bench, len(held.edits()[0][1]), held.program))), 7)
        self.assertEqual([row[:2] for row in found], [(True, k) for k in range(1, 8)])
        plain = Bench(PROGRAM)
        for item, row in zip(ALL, found):
            getattr(plain, item[0])(*item[1:])
            self.assertEqual(row[2], plain.program)

    def test_values_that_count_as_true(self):
        for value in (True, 1, -1, "no", [0], (None,), {0: 0}, object(), Noting(lambda: None, True), Bench):
            bench = Bench(PROGRAM)
            self.assertEqual(bench.attempt([SAY, ("drop", 99)], watch=lambda held: value), 1)
            self.assertEqual((bench.edits(), len(bench)), ((("attempt", (SAY,)),), 1))
        for value in (False, 0, None, "", [], (), {}, Noting(lambda: None, False), Bench(PROGRAM)):
            bench = Bench(PROGRAM)
            self.assertEqual(bench.attempt([SAY, SAY], watch=lambda held: value), 2)
            self.assertEqual(len(bench.program[1]), 7)

    def test_a_watch_that_returns_the_bench_itself(self):
        # It has an edit, so it counts as true.
        bench = Bench(PROGRAM)
        self.assertEqual(bench.attempt([SAY, SAY], watch=lambda held: held), 1)

    def test_ended_behind_the_last_item(self):
        bench = Bench(PROGRAM)
        self.assertEqual(bench.attempt([SAY, ("pause", 0)], watch=lambda held: held.pauses), 2)
        self.assertEqual(bench.edits(), (("attempt", (SAY, ("pause", 0))),))

    def test_the_items_that_are_left_over_are_looked_at_first(self):
        bench = Bench(PROGRAM)
        self.raises(BadEdit(1), bench.attempt, [SAY, ("drop",)], watch=lambda held: True)
        # Not, however, whether they could be done.
        self.assertEqual(bench.attempt([SAY, ("drop", 99)], watch=lambda held: True), 1)

    def test_rejected_behind_a_watch(self):
        bench = Bench(PROGRAM)
        before = seen(bench)
        called = []
        self.raises(Rejected(2), bench.attempt, [SAY, SAY, ("drop", 99)], watch=called.append)
        self.assertEqual((len(called), seen(bench)), (2, before))
        self.assertEqual(bench.pause(0), 1)

    def test_errors_of_a_watch(self):
        for error in (ValueError("x"), GoneError(), Rejected(7), NoPlace(3), KeyError(1), Stop(), KeyboardInterrupt(), SystemExit(3), Busy(), RecursionError(), TooMany(), GeneratorExit(), StopIteration()):
            for at in (1, 2, 3):
                bench = Bench(PROGRAM, (1,))
                bench.pause(0)
                bench.pause(2)
                bench.undo()
                before = seen(bench)

                def watch(held):
                    if len(held.edits()[-1][1]) == at:
                        raise error

                with self.assertRaises(type(error)) as caught:
                    bench.attempt([SAY, ("drop", 0), SAY], watch=watch)
                self.assertIs(caught.exception, error)
                self.assertEqual(seen(bench), before)
                self.assertEqual((bench.redo(), bench.pauses), (2, (0, 1, 2)))

    def test_errors_of_the_truth_of_its_result(self):
        for error in (ValueError("x"), NoPlace(3), Stop(), KeyboardInterrupt(), Rejected(0)):
            bench = Bench(PROGRAM)
            bench.pause(2)
            bench.undo()
            before = seen(bench)
            with self.assertRaises(type(error)) as caught:
                bench.attempt([SAY, SAY], watch=lambda held: Oddly(error))
            self.assertIs(caught.exception, error)
            self.assertEqual(seen(bench), before)
            self.assertEqual(bench.redo(), 1)

    def test_a_watch_that_is_none_of_a_function(self):
        bench = Bench(PROGRAM)
        before = seen(bench)
        self.assertRaises(TypeError, bench.attempt, [SAY], watch=lambda: None)
        self.assertEqual(seen(bench), before)
        self.assertEqual(bench.pause(0), 1)

    def test_a_watch_that_changes_the_list(self):
        for change in (lambda edits: edits.clear(), lambda edits: edits.append(("drop", 99)), lambda edits: edits.__setitem__(2, None), lambda edits: edits.reverse()):
            bench = Bench(PROGRAM)
            edits = [SAY, ("pause", 0), ("pause", 1)]
            self.assertEqual(bench.attempt(edits, watch=lambda held: change(edits)), 3)
            self.assertEqual(bench.edits(), (("attempt", (SAY, ("pause", 0), ("pause", 1))),))

    def test_what_a_watch_sees(self):
        bench = Bench(PROGRAM)
        bench.pause(4)
        bench.drop(3)
        bench.undo()
        rows = []

        def watch(held):
            rows.append((len(held), str(held), held.edits(), held.program, held.pauses, held.state(), held.state(version=2), held.state(version=1), held.state(version=0)))
            self.raises(NoVersion(3), held.state, version=3)
            self.assertEqual(held.verdict(), noticed(held.program, paused=held.pauses))
            self.assertEqual(held.outcome((), ((4, 1),)), run(held.program, (), ((4, 1),), paused=held.pauses))
            self.assertEqual(list(held.each_way(())), list(ways(held.program, (), paused=held.pauses)))
            self.assertEqual(list(held.each_way((), version=1)), list(ways(PROGRAM, (), paused=(4,))))
            self.assertEqual(held[0], held.program[1][0])
            self.assertTrue(held)
            self.assertTrue(held == Bench(*held.state()))
            self.raises(BadInputs(None), held.outcome, None, None)
            self.raises(BadPlan(None), held.outcome, (), None)
            self.raises(NoPlace(99), held.__getitem__, 99)

        items = (("resume", 4), ("hold", 2))
        self.assertEqual(bench.attempt(items, watch=watch), 2)
        strong = (0, PROGRAM[1][:2] + (("hold", "r", "f", "x"),) + PROGRAM[1][3:])
        first = (("pause", 4),)
        self.assertEqual(rows, [
            (2, "5 statements, 0 pauses, 2 edits", first + (("attempt", items[:1]),), PROGRAM, (), (PROGRAM, ()), (PROGRAM, ()), (PROGRAM, (4,)), (PROGRAM, ())),
            (2, "5 statements, 0 pauses, 2 edits", first + (("attempt", items),), strong, (), (strong, ()), (strong, ()), (PROGRAM, (4,)), (PROGRAM, ()))])

    def test_ways_that_are_begun_by_a_watch(self):
        bench = Bench(PROGRAM)
        begun = []

        def watch(held):
            found = held.each_way(())
            begun.append((next(found), found, list(held.each_way(()))))

        bench.attempt([("hold", 2), ("change", 2, ("weak", "r", "f", "x"))], watch=watch)
        for first, rest, rows in begun:
            self.assertEqual([first] + list(rest), rows)
        self.assertEqual([len(row[2]) for row in begun], [1, 2])

    def tries(self, bench):
        """Every edit, with right values and with wrong ones."""
        return (
            (bench.add, (("say", "a"),)), (bench.add, (None,)), (bench.drop, (0,)), (bench.drop, (None,)), (bench.change, (0, ("say", "a"))), (bench.change, (None, None)),
            (bench.keep, (0,)), (bench.keep, (99,)), (bench.hold, (2,)), (bench.hold, (0,)), (bench.pause, (1,)), (bench.pause, (None,)), (bench.resume, (0,)), (bench.resume, ("x",)),
            (bench.pause_fewest, ()), (bench.undo, ()), (bench.redo, ()), (bench.attempt, ([SAY],)), (bench.attempt, ([],)), (bench.attempt, (None,)), (bench.attempt, ([None],)),
            (bench.__setitem__, (0, ("say", "a"))), (bench.__setitem__, (None, None)), (bench.__iadd__, (("say", "a"),)), (bench.__isub__, (0,)), (bench.__ior__, ((),)), (bench.__ior__, (None,)))

    def test_busy(self):
        for owner in (Bench, SureBench):
            bench = owner((0, PROGRAM[1][:-1]), (0,))
            other = owner((0, PROGRAM[1][:-1]))
            bench.pause(2)
            bench.undo()
            called = []

            def watch(held):
                before = seen(held)
                for function, values in self.tries(held):
                    self.raises(Busy(), function, *values)
                self.assertEqual([Console(held).execute(line) for line in ("undo", "add say a", "drop 99", "fewest", "pauses")], ["error Busy"] * 4 + ["0"])
                # Other benches are not busy.
                called.append(other.add(("say", "a")))
                self.assertEqual(seen(held), before)

            self.assertEqual(bench.attempt([SAY, SAY], watch=watch), 2)
            self.assertEqual((called, len(bench), bench.pause(1)), ([1, 2], 1, 2))

    def test_busy_while_the_result_is_asked(self):
        for truth in (True, False):
            bench = Bench(PROGRAM)
            found = []

            def ask():
                for function, values in self.tries(bench):
                    self.raises(Busy(), function, *values)
                found.append((len(bench), bench.edits(), bench.program[1][-1]))

            self.assertEqual(bench.attempt([SAY, SAY], watch=lambda held: Noting(ask, truth)), 1 if truth else 2)
            self.assertEqual(found, [(1, (("attempt", (SAY,) * (k + 1)),), ("say", "a")) for k in range(1 if truth else 2)])
            self.assertEqual(bench.pause(0), 2)

    def test_not_busy_behind_it(self):
        bench = Bench(PROGRAM)
        self.assertRaises(Stop, bench.attempt, [SAY], watch=lambda held: Oddly(Stop()))
        self.raises(NothingToUndo(), bench.undo)
        self.assertRaises(Busy, bench.attempt, [SAY], watch=lambda held: held.undo())
        self.assertEqual(bench.pause(0), 1)
        self.assertEqual(bench.attempt([SAY], watch=lambda held: True), 1)
        self.assertEqual([bench.undo(), bench.redo()], [1, 2])

    def test_a_watch_that_catches_busy(self):
        bench = Bench(PROGRAM)

        def watch(held):
            try:
                held.attempt([SAY], watch=watch)
            except Busy:
                return False
            return True

        self.assertEqual(bench.attempt([SAY, SAY], watch=watch), 2)
        self.assertEqual(len(bench), 1)

    def test_the_watch_of_another_bench(self):
        one, other = Bench(PROGRAM), Bench(PROGRAM)

        def watch(held):
            self.raises(Busy(), held.undo)
            return other.attempt([SAY, SAY], watch=lambda inner: inner is other and self.raises(Busy(), one.add, ("say", "a")) is None)

        self.assertEqual(one.attempt([SAY, SAY, SAY], watch=watch), 1)
        self.assertEqual((len(one), len(other), other.edits()), (1, 1, (("attempt", (SAY,)),)))

    def test_the_same_attempt_twice(self):
        for watch in (None, lambda held: len(held.program[1]) == 6):
            one, other = Bench(PROGRAM), Bench(PROGRAM)
            self.assertEqual(one.attempt(ALL, watch=watch), other.attempt(ALL, watch=watch))
            self.assertEqual(seen(one), seen(other))


class SureAttempts(Raising):

    def test_through_programs_that_are_not_sure(self):
        bench = SureBench(PROGRAM, (4,))
        verdicts = []
        self.assertEqual(bench.attempt([("resume", 4), ("add", ("say", "a")), ("hold", 2)], watch=lambda held: verdicts.append(held.verdict())), 3)
        self.assertEqual(verdicts, [((), ((4, 1),)), ((), ((4, 1),)), None])
        self.assertEqual((bench.verdict(), len(bench)), (None, 1))

    def test_what_stands_in_the_end(self):
        for owner, edits, most in ((SureBench, [("hold", 2), ("change", 2, PROGRAM[1][2]), ("resume", 4)], None), (SureBench, [("resume", 4), ("hold", 2)], 1)):
            bench = owner(PROGRAM, (4,))
            bench.pause(0)
            bench.pause(1)
            bench.undo()
            before = seen(bench)
            self.raises(Unsure((), ((4, 1),)), bench.attempt, edits, watch=lambda held: len(held.edits()[-1][1]) == most)
            self.assertEqual(seen(bench), before)
            self.assertEqual((bench.redo(), bench.pauses), (2, (0, 1, 4)))
        bench = SureBench(PROGRAM, (4,))
        self.assertEqual(bench.attempt([("hold", 2), ("resume", 4)], watch=lambda held: True), 1)

    def test_through_programs_with_too_many_ways(self):
        bench = SureBench((0, MANY), tuple(range(4, 14)))
        found = []

        def watch(held):
            try:
                found.append(held.verdict())
            except TooMany:
                found.append("many")

        resumed = [("resume", place) for place in range(4, 14)]
        self.assertEqual(bench.attempt(resumed + [("pause", place) for place in range(4, 14)], watch=watch), 20)
        self.assertEqual((found[9], found[19]), ("many", None))
        before = seen(bench)
        self.raises(TooMany(), bench.attempt, resumed)
        self.assertEqual(seen(bench), before)
        self.raises(Rejected(10), bench.attempt, resumed + [("drop", 99)])
        self.assertEqual(bench.attempt(resumed + [("hold", 2)]), 11)
        self.assertEqual(bench.pauses, ())

    def test_other_errors_go_ahead(self):
        bench = SureBench(PROGRAM, (4,))
        self.raises(Rejected(1), bench.attempt, [("resume", 4), ("drop", 99)])
        self.raises(BadEdit(1), bench.attempt, [("resume", 4), None])
        self.assertRaises(Stop, bench.attempt, [("resume", 4)], watch=lambda held: Oddly(Stop()))
        self.raises(Unsure((), ((4, 1),)), bench.attempt, [("resume", 4)])
        self.assertEqual((len(bench), bench.pauses), (0, (4,)))

    def test_no_items(self):
        self.assertEqual(SureBench(PROGRAM, (4,)).attempt([]), 0)

    def test_unsure_of_the_program_that_would_come(self):
        bench = SureBench((1, PROGRAM[1][:-1]))
        with self.assertRaises(Unsure) as caught:
            bench.attempt([("add", ("if", ("given", 0), (("say", "a"), PROGRAM[1][-1]), ()))])
        self.assertEqual((caught.exception.inputs, caught.exception.plan), ((1,), ((6, 1),)))
        self.assertRaises(BadProgram, bench.add, None)


if __name__ == "__main__":
    unittest.main()
