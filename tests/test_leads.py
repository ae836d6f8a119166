"""led_run: answers that are given, and the story event by event."""

import copy
import random
import unittest

from exploring import all_runs, small_program
from leading import slow_led_run
from maybegone.leads import led_run
from maybegone.runs import run, there_at
from maybegone.stories import Facts, cells_at, reached_at
from reference import random_cases, random_program

ROOT = (("make", "r"), ("make", "x"))
WEAK = ROOT + (("weak", "r", "f", "x"),)
MAKES = ((("make", 0), ("stand", "r", 0)), (("make", 1), ("stand", "x", 1)))


def story_of(*rows, answers=(), inputs=()):
    return led_run((len(inputs), rows), inputs, answers)[3]


def events(*rows, answers=()):
    """The events of the last statement, behind ROOT."""
    return story_of(*(ROOT + rows), answers=answers)[-1]


class Events(unittest.TestCase):

    def test_make(self):
        self.assertEqual(story_of(("make", "x"), ("make", "y"), ("make", "x")),
                         ((("make", 0), ("stand", "x", 0)), (("make", 1), ("stand", "y", 1)), (("make", 2), ("stand", "x", 2))))

    def test_name(self):
        self.assertEqual(events(("name", "y", "x")), (("stand", "y", 1),))
        self.assertEqual(events(("name", "x", "x")), (("stand", "x", 1),))
        self.assertEqual(events(("name", "r", "x")), (("stand", "r", 1),))

    def test_drop(self):
        self.assertEqual(events(("drop", "x")), (("stand", "x", None),))
        self.assertEqual(events(("drop", "y")), (("stand", "y", None),))
        self.assertEqual(events(("drop", "x"), ("drop", "x")), (("stand", "x", None),))

    def test_keep(self):
        self.assertEqual(events(("keep", "x")), (("keep", 1),))
        self.assertEqual(events(("keep", "x"), ("keep", "x")), (("keep", 1),))

    def test_hold(self):
        self.assertEqual(events(("hold", "r", "f", "x")), (("hold", 0, "f", 1),))
        self.assertEqual(events(("hold", "r", "f", "x"), ("hold", "r", "f", "x")), (("hold", 0, "f", 1),))
        self.assertEqual(events(("hold", "r", "f", "x"), ("hold", "r", "f", "r")), (("hold", 0, "f", 0),))
        self.assertEqual(events(("weak", "r", "f", "x"), ("hold", "r", "f", "r")), (("hold", 0, "f", 0),))

    def test_weak(self):
        self.assertEqual(events(("weak", "r", "f", "x")), ())
        self.assertEqual(events(("weak", "r", "f", "x"), ("weak", "r", "f", "r")), ())
        self.assertEqual(events(("hold", "r", "f", "x"), ("weak", "r", "f", "x")), (("hold", 0, "f", None),))
        self.assertEqual(events(("hold", "r", "f", "x"), ("weak", "r", "f", "x"), ("weak", "r", "f", "x")), ())
        self.assertEqual(events(("hold", "r", "g", "x"), ("weak", "r", "f", "x")), ())
        self.assertEqual(events(("hold", "x", "f", "x"), ("weak", "r", "f", "x")), ())

    def test_cut(self):
        self.assertEqual(events(("cut", "r", "f")), ())
        self.assertEqual(events(("weak", "r", "f", "x"), ("cut", "r", "f")), ())
        self.assertEqual(events(("hold", "r", "f", "x"), ("cut", "r", "f")), (("hold", 0, "f", None),))
        self.assertEqual(events(("hold", "r", "f", "x"), ("cut", "r", "f"), ("cut", "r", "f")), ())
        self.assertEqual(events(("hold", "r", "f", "x"), ("weak", "r", "f", "x"), ("cut", "r", "f")), ())

    def test_take(self):
        self.assertEqual(events(("take", "z", "r", "f")), (("stand", "z", None),))
        weak = ("weak", "r", "f", "x")
        self.assertEqual(events(weak, ("take", "z", "r", "f"), answers=(0,)), (("ask", 1), ("stand", "z", 1)))
        self.assertEqual(events(weak, ("take", "z", "r", "f"), answers=(1,)), (("ask", 1), ("stand", "z", None)))
        self.assertEqual(events(weak, ("take", "z", "r", "f")), (("ask", 1),))
        # Also if the field is strong and the cell reached.
        self.assertEqual(events(("hold", "r", "f", "x"), ("take", "r", "r", "f"), answers=(1,)), (("ask", 1), ("stand", "r", None)))

    def test_statements_without_events(self):
        for row in (("wish", "x", "w"), ("say", "a"), ("ask", ("set", "x")), ("ask", ("same", "x", "r")), ("ask", ("full", "r", "f")),
                    ("ask", ("wished", "w")), ("if", ("set", "x"), (), ()), ("repeat", 3, ()), ("repeat", 0, (("make", "x"),))):
            self.assertEqual(story_of(*ROOT, row), MAKES + ((),))

    def test_tests(self):
        weak = ("weak", "r", "f", "x")
        for answer in (0, 1):
            self.assertEqual(events(weak, ("ask", ("full", "r", "f")), answers=(answer,)), (("ask", 1),))
            self.assertEqual(events(weak, ("if", ("not", ("full", "r", "f")), (), ()), answers=(answer,)), (("ask", 1),))

    def test_wished(self):
        rows = ROOT + (("make", "y"), ("wish", "y", "w"), ("wish", "r", "w"), ("wish", "x", "v"), ("wish", "x", "w"), ("ask", ("wished", "w")))
        self.assertEqual(story_of(*rows, answers=(0, 0, 0))[-1], (("ask", 0), ("ask", 1), ("ask", 2)))
        self.assertEqual(story_of(*rows, answers=(0, 1, 0))[-1], (("ask", 0), ("ask", 1)))
        self.assertEqual(story_of(*rows, answers=(1,))[-1], (("ask", 0),))
        self.assertEqual(story_of(*rows, answers=(0,))[-1], (("ask", 0), ("ask", 1)))
        self.assertEqual(led_run((0, rows), (), (0, 0, 0))[0], (("no",),))
        self.assertEqual(led_run((0, rows), (), (0, 1, 0))[0], (("yes",),))

    def test_blocks(self):
        rows = ROOT + (("if", ("given", 0), (("drop", "r"),), (("drop", "x"), ("drop", "x"))), ("repeat", 2, (("name", "y", "r"),)))
        self.assertEqual(story_of(*rows, inputs=(0,)), MAKES + (
            (), (("stand", "x", None),), (("stand", "x", None),), (), (("stand", "y", 0),), (("stand", "y", 0),)))
        self.assertEqual(led_run((1, rows), (1,), ())[1:], (("name", 7), (), MAKES + ((), (("stand", "r", None),), (), ())))

    def test_a_statement_that_stops(self):
        for row in (("wish", "y", "w"), ("keep", "y"), ("name", "x", "y"), ("hold", "r", "f", "y"), ("hold", "y", "f", "r"), ("weak", "r", "f", "y"),
                    ("weak", "y", "f", "r"), ("cut", "y", "f"), ("take", "z", "y", "f"), ("ask", ("full", "y", "f")), ("ask", ("same", "r", "y"))):
            self.assertEqual(led_run((0, ROOT + (row, ("say", "b"))), (), (1,)), ((), ("name", 2), (), MAKES + ((),)))

    def test_a_weak_statement_that_stops_leaves_the_field(self):
        rows = (("hold", "r", "f", "x"), ("weak", "r", "f", "y"))
        self.assertEqual(led_run((0, ROOT + rows), (), ()), ((), ("name", 3), (), MAKES + ((("hold", 0, "f", 1),), ())))

    def test_the_empty_program(self):
        self.assertEqual(led_run((0, ()), (), (1, 0)), ((), None, (), ()))


class Answers(unittest.TestCase):

    PROGRAM = (0, WEAK + (("ask", ("full", "r", "f")), ("repeat", 2, (("take", "y", "r", "f"), ("if", ("set", "y"), (("say", "a"),), ())))))

    def test_too_few(self):
        self.assertEqual(led_run(self.PROGRAM, (), ())[:3], ((), ("question", 3), ((3, 3, 1),)))
        self.assertEqual(led_run(self.PROGRAM, (), (0,))[:3], ((("yes",),), ("question", 5), ((3, 3, 1), (5, 5, 1))))
        self.assertEqual(led_run(self.PROGRAM, (), (0, 0))[:3],
                         ((("yes",), ("said", "a")), ("question", 5), ((3, 3, 1), (5, 5, 1), (8, 5, 1))))
        # The statement with the question is the last item, with the question as its last event.
        self.assertEqual(led_run(self.PROGRAM, (), (0, 0))[3], MAKES + (
            (), (("ask", 1),), (), (("ask", 1), ("stand", "y", 1)), (), (), (("ask", 1),)))

    def test_just_enough_and_too_many(self):
        enough = led_run(self.PROGRAM, (), (0, 0, 1))
        self.assertEqual(enough[:3], ((("yes",), ("said", "a")), None, ((3, 3, 1), (5, 5, 1), (8, 5, 1))))
        for more in ((0,), (1,), (1, 0, 1) * 100):
            self.assertEqual(led_run(self.PROGRAM, (), (0, 0, 1) + more), enough)

    def test_answers_that_no_run_has(self):
        self.assertEqual(led_run(self.PROGRAM, (), (1, 0, 1))[:2], ((("no",), ("said", "a")), None))
        # A reached cell is said to be cleared, and is taken back later.
        rows = WEAK + (("ask", ("full", "r", "f")), ("take", "x", "r", "f"), ("ask", ("set", "x")), ("take", "x", "r", "f"), ("hold", "r", "g", "x"))
        self.assertEqual(led_run((0, rows), (), (1, 1, 0))[:2], ((("no",), ("no",)), None))
        self.assertEqual(led_run((0, rows), (), (1, 1, 0))[3][-1], (("hold", 0, "g", 1),))
        self.assertEqual(led_run((0, rows), (), (0, 1, 1))[1], ("name", 7))

    def test_a_stop_that_only_an_answer_brings_about(self):
        rows = WEAK + (("take", "x", "r", "f"), ("keep", "x"))
        self.assertEqual(led_run((0, rows), (), (1,))[1], ("name", 4))
        self.assertIsNone(led_run((0, rows), (), (0,))[1])


class Long(unittest.TestCase):

    # 204 questions, 12 in each of 17 statements.
    PROGRAM = (0, (("repeat", 12, (("make", "x"), ("wish", "x", "w"))), ("repeat", 12, (("ask", ("wished", "w")),)))
               + (("ask", ("wished", "w")),) * 5)

    def test_long(self):
        answers, end, asked, story = led_run(self.PROGRAM, (), (0,) * 300)
        self.assertEqual(end, ("long", 9))
        self.assertEqual(len(answers), 16)
        self.assertEqual(len(asked), 200)
        self.assertEqual(asked[-1], (1 + 24 + 1 + 12 + 4, 9, 7))
        self.assertEqual(story[-1], tuple(("ask", cell) for cell in range(8)))

    def test_long_goes_ahead_of_question(self):
        full = led_run(self.PROGRAM, (), (0,) * 300)
        self.assertEqual(led_run(self.PROGRAM, (), (0,) * 200), full)
        self.assertEqual(led_run(self.PROGRAM, (), (0,) * 201), full)
        answers, end, asked, story = led_run(self.PROGRAM, (), (0,) * 199)
        self.assertEqual((answers, end, asked, story), (full[0], ("question", 9), full[2], full[3]))

    def test_fewer_questions_where_the_answer_is_yes(self):
        answers, end, asked, _ = led_run(self.PROGRAM, (), (1,) * 17)
        self.assertEqual((answers, end, len(asked)), ((("yes",),) * 17, None, 17))

    def test_the_record_of_a_long_run(self):
        answers, end, record, _ = run(self.PROGRAM, ())
        self.assertEqual((len(record), end), (200, ("long", 9)))
        self.assertEqual(led_run(self.PROGRAM, (), record)[:2], (answers, end))


class AllPrograms(unittest.TestCase):

    def test_against_the_reference(self):
        source = random.Random(17)
        ends = {}
        for program, inputs, _, _ in random_cases(17, 1500):
            answers = tuple(source.randrange(2) for _ in range(source.choice((0, 1, 3, 10, 100))))
            held = copy.deepcopy((program, inputs, answers))
            result = led_run(program, inputs, answers)
            self.assertEqual(result, slow_led_run(program, inputs, answers), (program, inputs, answers))
            self.assertEqual(result, led_run(program, inputs, answers))
            self.assertEqual((program, inputs, answers), held)
            word = None if result[1] is None else result[1][0]
            ends[word] = ends.get(word, 0) + 1
        self.assertGreater(min(ends[None], ends["name"], ends["question"]), 200)

    def test_the_records_of_runs(self):
        for program, inputs, plan, paused in random_cases(18, 800):
            answers, end, record, cleared = run(program, inputs, plan, paused=paused)
            led = led_run(program, inputs, record)
            self.assertEqual(led[:2], (answers, end))
            self.assertEqual(len(led[2]), len(record))
            story = led[3]
            there = there_at(program, inputs, plan, paused=paused)
            self.assertEqual(len(story), len(there))
            if len(story):
                self.assertEqual(cells_at(story, len(story)), there[-1] + len(cleared))
            # What was cleared was not reached.
            for moment, cell in cleared:
                self.assertNotIn(cell, reached_at(story, moment))
            facts = Facts(story, record)
            for moment, cell in cleared:
                self.assertNotEqual(facts.fate(cell, moment), "there")

    def test_kinds(self):
        for program, inputs, _, _ in random_cases(19, 100):
            for part in led_run(program, inputs, (0, 1, 0)):
                self.assertIn(type(part), (tuple, type(None)))
            for item in led_run(program, inputs, (0, 1, 0))[3]:
                self.assertTrue(type(item) is tuple and all(type(event) is tuple for event in item))

    def test_runs_with_the_same_record_go_the_same_way(self):
        source = random.Random(20)
        several = 0
        for _ in range(120):
            program = small_program(source)
            inputs = tuple(source.randrange(2) for _ in range(program[0]))
            runs = all_runs(program, inputs)
            if runs is not None:
                for answers, end, record, there in runs.values():
                    led = led_run(program, inputs, record)
                    self.assertEqual((led[0], led[1], len(led[3])), (answers, end, len(there)))
                records = {row[2] for row in runs.values()}
                several += len(records) > 1
                for one in records:
                    self.assertFalse(any(one != other and other[:len(one)] == one for other in records))
        self.assertGreater(several, 40)

    def test_what_is_known_of_a_cell(self):
        """Guarantee (g): a fate that is not open holds in each run of the way, an open one does not."""
        source = random.Random(21)
        counts = {"gone": 0, "there": 0, "open": 0}
        for _ in range(150):
            program = small_program(source)
            inputs = tuple(source.randrange(2) for _ in range(program[0]))
            for record, same in by_record(all_runs(program, inputs)).items():
                story = led_run(program, inputs, record)[3]
                facts = Facts(story, record)
                firsts = [{cell: moment for moment, cell in cleared} for cleared in same]
                for moment in range(len(story)):
                    for cell in range(cells_at(story, moment)):
                        fates = {"gone" if first.get(cell, len(story)) <= moment else "there" for first in firsts}
                        fate = fates.pop() if len(fates) == 1 else "open"
                        self.assertEqual(facts.fate(cell, moment), fate)
                        counts[fate] += 1
        self.assertGreater(min(counts.values()), 100)

    def test_programs_beyond_the_bounds(self):
        program = random_program(random.Random(22))
        program = (program[0], (("repeat", 3, program[1]),) * 4)
        inputs = (0,) * program[0]
        self.assertEqual(led_run(program, inputs, (0,) * 50), slow_led_run(program, inputs, (0,) * 50))


def by_record(runs):
    """The runs, by their records; none if there were too many to be gone through."""
    found = {}
    for cleared, row in (runs or {}).items():
        found.setdefault(row[2], []).append(cleared)
    return found


if __name__ == "__main__":
    unittest.main()
