"""paper_of and paper_holds."""

import copy
import random
import unittest

from altering import ODD, altered, nested
from exploring import all_runs, small_program
from maybegone.errors import GoneError, TooMany
from maybegone.papers import paper_holds, paper_of, table_holds, table_of
from maybegone.programs import program_error
from maybegone.verdicts import noticed
from maybegone.ways import each_inputs
from reference import slow_run
from test_tables import slow_plan, slow_table_holds

ASK = ("ask", ("full", "r", "f"))
LOOSE = (("make", "r"), ("make", "x"), ("weak", "r", "f", "x"), ("drop", "x"))
QUIET = ("take", "y", "r", "f"), ("drop", "y")
SURE = (0, LOOSE + QUIET * 2)
UNSURE = (0, LOOSE + (ASK,))
# Sure on (0, 0), (0, 1) and (1, 0), with one record or three.
MIXED = (2, LOOSE + (("if", ("given", 0), QUIET * 2, ()), ("if", ("given", 1), (("if", ("given", 0), (ASK,), ()),), ())))
GIVEN = (2, LOOSE + (("if", ("given", 0), QUIET * 2, ()), ("if", ("given", 1), QUIET, ())))


def slow_paper_holds(program, value):
    """What paper_holds has to return, as the document words it."""
    if type(value) is not tuple or not value or type(value[0]) is not str:
        return False
    if value[0] == "noticed" and len(value) == 3:
        inputs, plan = value[1:]
        if type(inputs) is not tuple or not all(type(bit) is int for bit in inputs) or inputs not in list(each_inputs(program)):
            return False
        return slow_plan(plan) and slow_run(program, inputs, plan)[0][:2] != slow_run(program, inputs)[0][:2]
    if value[0] != "sure" or len(value) != 2 or type(value[1]) is not tuple:
        return False
    if not all(type(pair) is tuple and len(pair) == 2 and type(pair[0]) is tuple for pair in value[1]):
        return False
    if [pair[0] for pair in value[1]] != list(each_inputs(program)) or not all(type(bit) is int for pair in value[1] for bit in pair[0]):
        return False
    for inputs, table in value[1]:
        if not slow_table_holds(program, inputs, table):
            return False
        if len({slow_run(program, inputs, plan)[0][:2] for _, plan in table[0]}) != 1:
            return False
    return True


class Papers(unittest.TestCase):

    def holds(self, program, value):
        result = paper_holds(program, value)
        self.assertIs(type(result), bool)
        self.assertEqual(result, slow_paper_holds(program, value))
        return result

    def test_of_sure_programs(self):
        for program in (SURE, (0, ()), (3, ()), GIVEN, (0, LOOSE[:3] + (ASK,))):
            paper = paper_of(program)
            self.assertEqual(paper[0], "sure")
            self.assertEqual([pair[0] for pair in paper[1]], list(each_inputs(program)))
            self.assertTrue(self.holds(program, paper))
            for inputs, table in paper[1]:
                self.assertTrue(table_holds(program, inputs, table))

    def test_of_noticed_programs(self):
        for program in (UNSURE, MIXED, (1, LOOSE + (("if", ("given", 0), (), (ASK,)),))):
            paper = paper_of(program)
            self.assertEqual((paper[0], len(paper)), ("noticed", 3))
            self.assertTrue(self.holds(program, paper))

    def test_of_programs_that_are_noticed_on_some_inputs_only(self):
        self.assertEqual(paper_of(MIXED)[1], (1, 1))
        self.assertEqual(paper_of((1, LOOSE + (("if", ("given", 0), (), (ASK,)),)))[1], (0,))
        self.assertEqual(paper_of((1, LOOSE + (("if", ("given", 0), (ASK,), ()),)))[1], (1,))

    def test_papers_of_the_other_kind(self):
        # A table that holds is no paper if its rows have two outcomes.
        tables = tuple((inputs, table_of(UNSURE, inputs)) for inputs in each_inputs(UNSURE))
        self.assertFalse(self.holds(UNSURE, ("sure", tables)))
        tables = tuple((inputs, table_of(MIXED, inputs)) for inputs in each_inputs(MIXED))
        self.assertFalse(self.holds(MIXED, ("sure", tables)))
        for plan in ((), ((4, 1),), ((5, 1),), ((3, 1),), ((0, 0),)):
            self.assertFalse(self.holds(SURE, ("noticed", (), plan)))
        self.assertFalse(self.holds(SURE, ("noticed",) + paper_of(SURE)[1:]))
        self.assertFalse(self.holds(UNSURE, ("sure",) + paper_of(UNSURE)[1:]))

    def test_papers_of_other_programs(self):
        for one in (SURE, GIVEN, (0, ())):
            for other in (SURE, GIVEN, (0, ())):
                self.assertEqual(self.holds(one, paper_of(other)), one == other)

    def test_tables_left_out_or_doubled_or_moved(self):
        tables = paper_of(GIVEN)[1]
        self.assertEqual(len(tables), 4)
        for at in range(4):
            self.assertFalse(self.holds(GIVEN, ("sure", tables[:at] + tables[at + 1:])))
            self.assertFalse(self.holds(GIVEN, ("sure", tables[:at + 1] + tables[at:])))
            for other in range(4):
                moved = tables[:at] + ((tables[at][0], tables[other][1]),) + tables[at + 1:]
                self.assertEqual(self.holds(GIVEN, ("sure", moved)), len(tables[at][1][0]) == len(tables[other][1][0]))
                twice = tables[:at] + (tables[other],) + tables[at + 1:]
                self.assertEqual(self.holds(GIVEN, ("sure", twice)), at == other)
        self.assertFalse(self.holds(GIVEN, ("sure", tables[::-1])))
        self.assertFalse(self.holds(GIVEN, ("sure", ())))
        self.assertFalse(self.holds((0, ()), ("sure", ())))

    def test_noticed_without_being_noticed(self):
        self.assertTrue(self.holds(UNSURE, ("noticed", (), ((4, 1),))))
        for plan in ((), ((3, 1),), ((5, 1),), ((4, 0),), ((4, 2),)):
            self.assertFalse(self.holds(UNSURE, ("noticed", (), plan)))
        self.assertTrue(self.holds(MIXED, ("noticed", (1, 1), ((4, 1),))))
        for inputs in ((0, 0), (0, 1), (1, 0)):
            self.assertFalse(self.holds(MIXED, ("noticed", inputs, ((4, 1),))))

    def test_the_plan_need_not_be_the_late_one(self):
        self.assertTrue(self.holds(UNSURE, ("noticed", (), ((4, 1), (4, 7), (900, 3)))))
        self.assertTrue(self.holds(MIXED, ("noticed", (1, 1), ((5, 1),))))

    def test_inputs_and_plans_that_are_none(self):
        for inputs in ((0,), (), (0, 1, 1), (1, True), (True, True), [1, 1], (1, 2), (1, -1), "11", None, 11, {1: 1}, ((1, 1),)):
            self.assertFalse(self.holds(MIXED, ("noticed", inputs, ((4, 1),))))
        for plan in (((4, 1), (4, 1)), ((5, 1), (4, 1)), [(4, 1)], ([4, 1],), ((4, True),), ((4, 1, 1),), ((4, 1), (4, -1)), ((4, 1), (10 ** 6 + 1, 1)), None,
                     tuple((4, k) for k in range(1, 402))):
            self.assertFalse(self.holds(UNSURE, ("noticed", (), plan)))
        self.assertTrue(self.holds(UNSURE, ("noticed", (), tuple((4, k) for k in range(1, 401)))))

    def test_inputs_of_tables_that_are_none(self):
        tables = paper_of((1, ()))[1]
        self.assertTrue(self.holds((1, ()), ("sure", tables)))
        for inputs in ((True,), [1], (2,), (1, 1), 1, None, ("1",)):
            self.assertFalse(self.holds((1, ()), ("sure", tables[:1] + ((inputs, tables[1][1]),))))
        self.assertFalse(self.holds((1, ()), ("sure", (((False,), tables[0][1]), tables[1]))))

    def test_values_that_are_no_papers(self):
        paper, other = paper_of(SURE), paper_of(UNSURE)
        for value in ODD + tuple(nested(20)):
            for program in (SURE, UNSURE):
                self.assertIs(paper_holds(program, value), False)
                for word in ("sure", "noticed", "", value):
                    self.assertIs(paper_holds(program, (word, value)), False)
                    self.assertIs(paper_holds(program, (word, value, value)), False)
                self.assertIs(paper_holds(program, (value,) + paper[1:]), value == "sure" and program == SURE)
                self.assertIs(paper_holds(program, (value,) + other[1:]), False)
            self.assertIs(paper_holds(SURE, paper + (value,)), False)
            self.assertIs(paper_holds(UNSURE, other + (value,)), False)
            self.assertIs(paper_holds(SURE, ("sure", (value,))), False)
            self.assertIs(paper_holds(SURE, ("sure", (((), value),))), False)
        for value in (list(paper), ("Sure",) + paper[1:], ("noticed",) + paper[1:], (paper,), paper[1:], paper[1], ("sure", list(paper[1])),
                      ("sure", tuple(list(pair) for pair in paper[1]))):
            self.assertIs(paper_holds(SURE, value), False)

    def test_the_same_outcome_in_all_rows(self):
        # All of the rows differ in their records, and in nothing else.
        self.assertEqual(len(paper_of(SURE)[1][0][1][0]), 3)
        # Here the place at which the run stops tells it.
        program = (0, LOOSE + (("take", "x", "r", "f"), ("name", "y", "x"), ("name", "y", "z")))
        table = table_of(program, ())
        self.assertTrue(table_holds(program, (), table))
        self.assertFalse(self.holds(program, ("sure", (((), table),))))
        self.assertEqual(paper_of(program), ("noticed", (), ((4, 1),)))


class TooManyRecords(unittest.TestCase):

    def too_many(self, program):
        self.assertIsNone(program_error(program))
        with self.assertRaises(TooMany) as caught:
            paper_of(program)
        self.assertIsInstance(caught.exception, GoneError)

    def test_as_noticed(self):
        many = (("repeat", 12, (ASK,) * 5),) + (ASK,) * 4
        self.too_many((0, LOOSE + many))
        self.too_many((1, LOOSE + (("if", ("given", 0), many, (ASK,)),)))
        # It is noticed, and has no table, but noticed does not mind.
        self.assertEqual(paper_of((0, LOOSE + many[:-1])), ("noticed",) + noticed((0, LOOSE + many[:-1])))

    def test_as_noticed_although_it_is_sure(self):
        self.too_many((0, LOOSE + (("repeat", 8, QUIET * 8),)))

    def test_as_table_of(self):
        for program in ((0, LOOSE + QUIET * 10 + (("repeat", 10, QUIET),)), (1, LOOSE + (("if", ("given", 0), (("repeat", 10, QUIET * 2),), ()),))):
            self.assertIsNone(noticed(program))
            self.too_many(program)
        program = (1, LOOSE + (("if", ("given", 0), (("repeat", 9, QUIET * 2),), ()),))
        self.assertTrue(paper_holds(program, paper_of(program)))

    def test_papers_longer_than_paper_of_makes_them(self):
        # Each of seven cells is asked about once: 128 records, and no bans.
        rows = (("make", "r"),)
        for k in range(7):
            rows += (("make", "x"), ("weak", "r", f"f{k}", "x"))
        program = (0, rows + (("drop", "x"),) + tuple(("take", "y", "r", f"f{k}") for k in range(7)) + (("drop", "y"),))
        self.too_many(program)
        first = len(rows) + 1
        plans = [tuple((first + k, k + 1) for k in range(7) if number >> k & 1) for number in range(128)]
        table = tuple(sorted((slow_run(program, (), plan)[0][2], plan) for plan in plans))
        self.assertEqual(len({record for record, _ in table}), 128)
        self.assertTrue(paper_holds(program, ("sure", (((), (table, ())),))))
        self.assertFalse(paper_holds(program, ("sure", (((), (table[:-1], ())),))))


class AllPrograms(unittest.TestCase):

    def programs(self, seed, many):
        source = random.Random(seed)
        for _ in range(many):
            program = small_program(source)
            if source.randrange(2):
                program = (program[0], tuple(("take", "x", "root", "f") if row[0] in ("ask", "if") else row for row in program[1]))
            yield source, program

    def test_papers_hold(self):
        kinds = {"sure": 0, "noticed": 0}
        for source, program in self.programs(61, 300):
            held = copy.deepcopy(program)
            paper = paper_of(program)
            self.assertEqual(paper, paper_of(program))
            self.assertEqual(program, held)
            kinds[paper[0]] += 1
            self.assertEqual(paper[0] == "sure", noticed(program) is None)
            self.assertTrue(paper_holds(program, paper))
            self.assertTrue(slow_paper_holds(program, paper))
        self.assertGreater(min(kinds.values()), 60, kinds)

    def test_never_both_kinds(self):
        for source, program in self.programs(62, 150):
            tables = tuple((inputs, table_of(program, inputs)) for inputs in each_inputs(program))
            sure = paper_holds(program, ("sure", tables))
            for inputs in each_inputs(program):
                runs = all_runs(program, inputs, most=200)
                for cleared in list(runs or ())[:60]:
                    self.assertFalse(sure and paper_holds(program, ("noticed", inputs, cleared)))
                if runs is not None and not sure and len(tables) == 1:
                    self.assertTrue(any(paper_holds(program, ("noticed", inputs, cleared)) for cleared in runs))

    def test_papers_with_some_parts_replaced(self):
        results = {(kind, holds): 0 for kind in ("sure", "noticed") for holds in (False, True)}
        for source, program in self.programs(63, 150):
            paper = paper_of(program)
            for _ in range(6):
                value = altered(source, paper)
                held = copy.deepcopy(value)
                found = paper_holds(program, value)
                self.assertIs(type(found), bool)
                self.assertEqual(found, slow_paper_holds(program, value), (program, value))
                self.assertEqual(value, held)
                results[paper[0], found] += 1
        self.assertGreater(min(results.values()), 10, results)


if __name__ == "__main__":
    unittest.main()
