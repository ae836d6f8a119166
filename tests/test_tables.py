"""table_of and table_holds."""

import copy
import random
import unittest

from altering import ODD, altered, nested
from exploring import all_ways, small_program
from leading import slow_led_run
from maybegone.bounds import MAX_ANSWERS, MAX_PLAN, MAX_WAYS
from maybegone.errors import GoneError, TooMany
from maybegone.papers import table_holds, table_of
from maybegone.programs import program_error
from maybegone.ways import each_inputs, ways
from reference import slow_run
from telling import slow_steps_hold

ASK = ("ask", ("full", "r", "f"))
LOOSE = (("make", "r"), ("make", "x"), ("weak", "r", "f", "x"), ("drop", "x"))
PROGRAM = (0, LOOSE + (ASK, ASK))
ROWS = (((0, 0), ()), ((0, 1), ((5, 1),)), ((1, 1), ((4, 1),)))
STEPS = ((1, 4, "gone", ("asked", 0)), (1, 5, "gone", ("later", 0)), (1, 5, "there", ("asked", 1)))
BANS = (((1, 0), STEPS),)


def integers(value):
    return all(type(part) is int for part in value)


def slow_plan(value):
    if type(value) is not tuple or len(value) > 400:
        return False
    if not all(type(pair) is tuple and len(pair) == 2 and integers(pair) for pair in value):
        return False
    return all(0 <= part <= 10 ** 6 for pair in value for part in pair) and list(value) == sorted(set(value))


def keyed(value):
    if type(value) is not tuple or not all(type(row) is tuple and len(row) == 2 and type(row[0]) is tuple for row in value):
        return False
    if not all(integers(row[0]) and set(row[0]) <= {0, 1} for row in value):
        return False
    keys = [row[0] for row in value]
    return keys == sorted(set(keys))


def slow_table_holds(program, inputs, value):
    """What table_holds has to return, as the document words it."""
    if type(value) is not tuple or len(value) != 2 or not keyed(value[0]) or not keyed(value[1]) or not value[0]:
        return False
    rows, bans = value
    if not all(slow_plan(plan) and slow_run(program, inputs, plan)[0][2] == record for record, plan in rows):
        return False
    turnings = {record[:k] + (1 - record[k],) for record, _ in rows for k in range(len(record))}
    begun = {record[:k] for record, _ in rows for k in range(len(record) + 1)}
    if not all(turning in begun or turning in dict(bans) for turning in turnings):
        return False
    for beginning, steps in bans:
        if beginning not in turnings:
            return False
        _, end, _, story = slow_led_run(program, inputs, beginning[:-1])
        if end is None or end[0] != "question" or slow_steps_hold(story, beginning, steps) != "clash":
            return False
    return True


class Tables(unittest.TestCase):

    def holds(self, rows, bans, program=PROGRAM):
        result = table_holds(program, (), (rows, bans))
        self.assertIs(type(result), bool)
        self.assertEqual(result, slow_table_holds(program, (), (rows, bans)))
        return result

    def test_the_whole_table(self):
        self.assertTrue(self.holds(ROWS, BANS))
        self.assertTrue(self.holds((((), ()),), (), (0, ())))
        self.assertTrue(self.holds((((), ((1, 0),)),), (), (0, (("make", "x"), ("drop", "x")))))

    def test_a_row_less(self):
        for at in range(3):
            self.assertFalse(self.holds(ROWS[:at] + ROWS[at + 1:], BANS))
            self.assertFalse(self.holds(ROWS[:at] + ROWS[at + 1:], ()))
        self.assertFalse(self.holds(ROWS[:1], BANS))
        self.assertFalse(self.holds((), ()))
        self.assertFalse(self.holds((), BANS))
        self.assertFalse(self.holds((), (), (0, ())))

    def test_a_ban_less(self):
        self.assertFalse(self.holds(ROWS, ()))

    def test_other_plans(self):
        for plan in (((6, 1),), ((4, 0),), ((0, 0), (10 ** 6, 10 ** 6)), ((1, 1), (2, 1), (3, 1)), ((4, 7),)):
            self.assertTrue(self.holds(((ROWS[0][0], plan),) + ROWS[1:], BANS))
        self.assertTrue(self.holds(ROWS[:2] + ((ROWS[2][0], ((4, 1), (5, 1))),), BANS))
        for plan in (((5, 1),), ((4, 1),), ((4, 0), (4, 1))):
            self.assertFalse(self.holds(((ROWS[0][0], plan),) + ROWS[1:], BANS))

    def test_what_is_no_plan(self):
        for plan in (((6, 1), (6, 1)), ((7, 1), (6, 1)), ((-1, 1),), ((0, -1),), ((10 ** 6 + 1, 1),), ((0, 10 ** 6 + 1),), ((6,),), ((6, 1, 1),),
                     (6, 1), [(6, 1)], ([6, 1],), ((True, 1),), ((6, True),), None, "", ((6, None),), 0, {}):
            self.assertFalse(self.holds(((ROWS[0][0], plan),) + ROWS[1:], BANS))

    def test_long_plans(self):
        long = tuple((6 + moment, 1) for moment in range(MAX_PLAN + 1))
        self.assertTrue(self.holds(((ROWS[0][0], long[:-1]),) + ROWS[1:], BANS))
        self.assertFalse(self.holds(((ROWS[0][0], long),) + ROWS[1:], BANS))

    def test_other_steps(self):
        direct = (STEPS[0], STEPS[2], STEPS[1][:3] + (("later", 0),))
        for steps in (direct, STEPS + STEPS, ((0, 1, "there", ("reached",)),) + tuple(
                row[:3] + (("later", 1),) if row[3][0] == "later" else row for row in STEPS)):
            self.assertTrue(self.holds(ROWS, (((1, 0), steps),)))
        for steps in ((), STEPS[:1], STEPS[:2], STEPS[1:], STEPS[::-1], STEPS[:2] + STEPS[1:2], list(STEPS), None, STEPS + (None,),
                      STEPS[:2] + ((1, 5, "there", ("asked", 0)),), STEPS[:1] + ((True, 5, "gone", ("later", 0)),) + STEPS[2:],
                      STEPS[:2] + ((1, 5, "there", ("asked", True)),)):
            self.assertFalse(self.holds(ROWS, (((1, 0), steps),)))

    def test_steps_at_moments_behind_the_question(self):
        # The led run ends at moment 5, so its story has no moment 6.
        later = STEPS[:1] + ((1, 6, "gone", ("later", 0)),) + STEPS[2:]
        self.assertFalse(self.holds(ROWS, (((1, 0), later),)))
        self.assertFalse(self.holds(ROWS, (((1, 0), later + STEPS[1:2]),)))

    def test_bans_that_are_no_turnings(self):
        for beginning in ((), (0,), (1,), (0, 0), (0, 1), (1, 1), (1, 0, 0), (1, 0, 1), (0, 1, 0)):
            for steps in (STEPS, ()):
                bans = tuple(sorted(BANS + ((beginning, steps),)))
                self.assertFalse(self.holds(ROWS, bans))
                self.assertFalse(self.holds(ROWS, ((beginning, steps),)))

    def test_order(self):
        rows = tuple(table_of((0, LOOSE + (ASK,) * 3), ())[0])
        bans = table_of((0, LOOSE + (ASK,) * 3), ())[1]
        self.assertEqual([ban[0] for ban in bans], [(0, 1, 0), (1, 0), (1, 1, 0)])
        program = (0, LOOSE + (ASK,) * 3)
        self.assertTrue(self.holds(rows, bans, program))
        for other in (rows[::-1], rows[:1] + rows, rows + rows[-1:], (rows[1], rows[0]) + rows[2:]):
            self.assertFalse(self.holds(other, bans, program))
        for other in (bans[::-1], bans[:1] + bans, bans + bans[-1:], (bans[1], bans[0], bans[2])):
            self.assertFalse(self.holds(rows, other, program))

    def test_lists_in_the_place_of_tuples(self):
        for value in ([ROWS, BANS], (list(ROWS), BANS), (ROWS, list(BANS)), (tuple(list(row) for row in ROWS), BANS),
                      (tuple((list(record), plan) for record, plan in ROWS), BANS), (ROWS, (list(BANS[0]),)), (ROWS, (([1, 0], STEPS),)),
                      (ROWS, (((1, 0), list(STEPS)),)), (ROWS, (((1, 0), tuple(list(row) for row in STEPS)),)), {0: ROWS, 1: BANS}):
            self.assertIs(table_holds(PROGRAM, (), value), False)
            self.assertFalse(slow_table_holds(PROGRAM, (), value))

    def test_true_in_the_place_of_one(self):
        for value in ((ROWS[:2] + (((1, True), ROWS[2][1]),), BANS), ((((0, False), ()),) + ROWS[1:], BANS), (ROWS, (((True, 0), STEPS),)),
                      (ROWS[:2] + (((1, 1), ((4, True),)),), BANS)):
            self.assertEqual(value, (ROWS, BANS))
            self.assertIs(table_holds(PROGRAM, (), value), False)

    def test_values_that_are_no_tables(self):
        for value in ODD + tuple(nested(20)):
            self.assertIs(table_holds(PROGRAM, (), value), False)
            self.assertIs(table_holds(PROGRAM, (), (value, value)), False)
            self.assertIs(table_holds(PROGRAM, (), (ROWS, value)), False)
            self.assertIs(table_holds(PROGRAM, (), (ROWS, BANS, value)), False)
            self.assertIs(table_holds(PROGRAM, (), (ROWS, (value,))), False)
            self.assertIs(table_holds(PROGRAM, (), ((value,) + ROWS, BANS)), False)
            self.assertIs(table_holds(PROGRAM, (), (ROWS, (((1, 0), value),))), False)
            if type(value) is not tuple or value:
                self.assertIs(table_holds(PROGRAM, (), (((ROWS[0][0], value),) + ROWS[1:], BANS)), False)

    def test_tables_of_other_programs_and_inputs(self):
        program = (1, LOOSE + (("if", ("given", 0), (ASK, ASK), (ASK,)),))
        tables = [table_of(program, inputs) for inputs in each_inputs(program)]
        self.assertEqual([[table_holds(program, inputs, table) for table in tables] for inputs in each_inputs(program)],
                         [[True, False], [False, True]])
        self.assertFalse(table_holds(PROGRAM, (), table_of((0, LOOSE + (ASK,)), ())))

    def test_records_as_those_of_another_run(self):
        # The ends of the records are there, but one of them goes on.
        self.assertFalse(self.holds((((0,), ()), ((1, 1), ((4, 1),))), BANS))
        self.assertFalse(self.holds((((0, 0, 0), ()), ((1, 1), ((4, 1),))), BANS))
        self.assertFalse(self.holds((((2, 0), ()),) + ROWS[1:], BANS))
        self.assertFalse(self.holds((((-1, 0), ()),) + ROWS, BANS))


class LongTables(unittest.TestCase):

    def asking(self, many, more=()):
        full, rest = divmod(many, 12)
        return (0, LOOSE + (("repeat", 12, (ASK,) * full),) + (ASK,) * rest + more)

    def separate(self, many, asks=1):
        rows = (("make", "r"),)
        for k in range(many):
            rows += (("make", "x"), ("weak", "r", f"f{k}", "x"))
        asked = tuple(("ask", ("full", "r", f"f{k}")) for k in range(many))
        return (0, rows + (("drop", "x"),) + asked * asks)

    def too_many(self, program):
        with self.assertRaises(TooMany) as caught:
            table_of(program, ())
        self.assertIsInstance(caught.exception, GoneError)

    def test_just_64_records_and_more(self):
        program = self.separate(6)
        rows, bans = table_of(program, ())
        self.assertEqual((len(rows), bans), (MAX_WAYS, ()))
        self.assertTrue(table_holds(program, (), (rows, bans)))
        self.assertFalse(table_holds(program, (), (rows[1:], bans)))
        self.too_many(self.separate(7))

    def test_just_400_items_and_more(self):
        # 20 records of 19 answers; the question about a cell that is reached makes them longer by one.
        held = ("if", ("full", "q", "f"), (), ())
        rows = (("make", "q"), ("hold", "q", "f", "q")) + self.asking(18)[1] + (("take", "y", "r", "f"),)
        # y stands for a cell in one of the runs alone.
        for more, total in ((held,), 400), ((("if", ("set", "y"), (held,), ()), held), 401), ((("if", ("set", "y"), (), (held,)), held), 419), ((), 380):
            program = (0, rows + more)
            self.assertIsNone(program_error(program))
            self.assertEqual(sum(len(row[0]) for row in ways(program, ())), total)
            if total > MAX_ANSWERS:
                self.too_many(program)
            else:
                table = table_of(program, ())
                self.assertTrue(table_holds(program, (), table))
                self.assertFalse(table_holds(program, (), (table[0], table[1][:-1])))
        self.assertEqual(sum(len(row[0]) for row in ways(self.asking(20), ())), 420)
        self.too_many(self.asking(20))

    def test_longer_tables_are_judged(self):
        for program in (self.separate(7), self.asking(30)):
            runs = {}
            plans = [()]
            if program == self.separate(7):
                plans = [tuple((22 + k - 6, k + 1) for k in range(7) if number >> k & 1) for number in range(128)]
            else:
                plans = [()] + [((moment, 1),) for moment in range(4, 60)]
            for plan in plans:
                runs[slow_run(program, (), plan)[0][2]] = plan
            rows = tuple(sorted(runs.items()))
            bans = self.bans(program, rows)
            self.too_many(program)
            self.assertTrue(table_holds(program, (), (rows, bans)), len(rows))
            self.assertFalse(table_holds(program, (), (rows[:-1], bans)))
            self.assertFalse(table_holds(program, (), (rows[1:], bans)))
            self.assertFalse(table_holds(program, (), (rows, bans + (((1,) * 30, ()),))))

    def bans(self, program, rows):
        """Bans for all other turnings: a cell that is gone stays so."""
        begun = {record[:k] for record, _ in rows for k in range(len(record) + 1)}
        turnings = {record[:k] + (1 - record[k],) for record, _ in rows for k in range(len(record))}
        bans = ()
        for turning in sorted(turnings - begun):
            asked = slow_led_run(program, (), turning[:-1])[2]
            at = turning.index(1)
            (first, _, cell), (last, _, same) = asked[at], asked[len(turning) - 1]
            self.assertEqual(cell, same)
            rest = () if first == last else ((cell, last, "gone", ("later", 0)),)
            bans += ((turning, ((cell, first, "gone", ("asked", at)),) + rest + ((cell, last, "there", ("asked", len(turning) - 1)),)),)
        return bans


class AllPrograms(unittest.TestCase):

    def tables(self, seed, many):
        source = random.Random(seed)
        for _ in range(many):
            givens, rows = small_program(source)
            program = (source.choice((givens, 3)), rows)
            if givens == 0 and program[0]:
                program = (3, rows[:-1] + (("if", ("given", source.randrange(3)), rows[-1:], ()),))
            for inputs in each_inputs(program):
                yield source, program, inputs, table_of(program, inputs)

    def test_tables_hold_and_have_all_records(self):
        banning = several = 0
        for source, program, inputs, table in self.tables(51, 120):
            held = copy.deepcopy((program, inputs, table))
            self.assertTrue(table_holds(program, inputs, table))
            self.assertTrue(slow_table_holds(program, inputs, table))
            self.assertEqual(table_of(program, inputs), table)
            self.assertEqual((program, inputs, table), held)
            self.assertEqual([row[0] for row in table[0]], [row[0] for row in ways(program, inputs)])
            rows = all_ways(program, inputs, (), 300)
            if rows is not None:
                self.assertEqual([row[0] for row in table[0]], [row[0] for row in rows])
            banning += bool(table[1])
            several += len(table[0]) > 1
        self.assertGreater(min(banning, several), 100)

    def test_no_row_and_no_ban_can_be_missing(self):
        for source, program, inputs, (rows, bans) in self.tables(52, 60):
            for at in range(len(rows)):
                self.assertFalse(table_holds(program, inputs, (rows[:at] + rows[at + 1:], bans)))
            for at in range(len(bans)):
                self.assertFalse(table_holds(program, inputs, (rows, bans[:at] + bans[at + 1:])))

    def test_tables_with_some_parts_replaced(self):
        results = [0, 0]
        for source, program, inputs, table in self.tables(53, 60):
            for _ in range(12):
                value = altered(source, table)
                held = copy.deepcopy(value)
                found = table_holds(program, inputs, value)
                self.assertIs(type(found), bool)
                self.assertEqual(found, slow_table_holds(program, inputs, value), (program, inputs, value))
                self.assertEqual(value, held)
                results[found] += 1
        self.assertGreater(min(results), 200, results)


class BeyondTheBounds(unittest.TestCase):

    def test_programs_that_fixes_have_changed(self):
        kept = (("make", "y"), ("keep", "y"), ("keep", "y")) * 8
        program = (0, LOOSE + (("repeat", 12, kept), ASK, ASK))
        self.assertIsNotNone(program_error(program))
        table = table_of(program, ())
        self.assertEqual([row[0] for row in table[0]], [(0, 0), (0, 1), (1, 1)])
        self.assertTrue(table_holds(program, (), table))
        self.assertFalse(table_holds(program, (), (table[0], ())))


if __name__ == "__main__":
    unittest.main()
