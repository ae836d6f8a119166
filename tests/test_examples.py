"""The examples that the document shows, with just the results that are shown."""

import unittest

from maybegone.benches import Bench, SureBench
from maybegone.consoles import Console
from maybegone.errors import BadProgram, BadText, Rejected
from maybegone.fixes import Fix, Keeps, Strongs, keeps, pauses
from maybegone.leads import led_run
from maybegone.papers import paper_holds, paper_of, table_holds, table_of
from maybegone.passes import crowded, fewest_passes, quiet_moments, run_passes
from maybegone.programs import each_statement, make_places, program_error, weak_places, weight, wishes_of
from maybegone.rooms import room
from maybegone.rules import AtOnce, Counting, Places, Rule, parted_by, plan_by, run_by
from maybegone.runs import run, there_at
from maybegone.stories import Facts, cells_at, comers, reached_at, steps_hold
from maybegone.texts import parse_program, program_text
from maybegone.verdicts import alike, noticed
from maybegone.ways import each_inputs, early_plan, way_of, ways


class Examples(unittest.TestCase):

    def test_program_error(self):
        self.assertEqual(
            [program_error((1, (("make", "x"), ("if", ("given", 0), (("drop", "x"),), ())))), program_error((1, (("if", ("given", 1), (), ()),))), program_error((0, (("repeat", 2, (("say", "A"),)),))), program_error([0, ()])],
            [None, (0, 'statement'), (1, 'statement'), (None, 'program')])

    def test_statements_and_places(self):
        program = (0, (("repeat", 3, (("make", "x"), ("weak", "x", "f", "x"))), ("if", ("set", "x"), (("wish", "x", "bye"),), (("make", "y"),))))
        self.assertEqual(
            [[row[:2] for row in each_statement(program)], weight(program), wishes_of(program), make_places(program), weak_places(program)],
            [[(0, 0), (1, 1), (2, 1), (3, 0), (4, 1), (5, 1)], 10, ('bye',), (1, 5), (2,)])

    def test_run(self):
        program = (0, (("make", "x"), ("make", "y"), ("weak", "x", "f", "y"), ("drop", "y"), ("ask", ("full", "x", "f")), ("take", "y", "x", "f"), ("ask", ("set", "y"))))
        self.assertEqual(
            [run(program, ()), run(program, (), ((3, 1), (5, 1))), run(program, (), ((4, 1),)), run(program, (), ((4, 1),), paused=(4,))],
            [((('yes',), ('yes',)), None, (0, 0), ()), ((('yes',), ('no',)), None, (0, 1), ((5, 1),)), ((('no',), ('no',)), None, (1, 1), ((4, 1),)), ((('yes',), ('yes',)), None, (0, 0), ())])

    def test_run_with_a_wish(self):
        program = (0, (("make", "x"), ("make", "y"), ("wish", "y", "bye"), ("hold", "y", "f", "x"), ("drop", "x"), ("drop", "y"), ("ask", ("wished", "bye"))))
        self.assertEqual(
            [run(program, (), ((5, 0),)), run(program, (), ((6, 0),))],
            [((('no',),), None, (0,), ()), ((('yes',),), None, (1,), ((6, 0), (6, 1)))])

    def test_there_at(self):
        program = (0, (("make", "x"), ("make", "x"), ("make", "x")))
        self.assertEqual(
            [there_at(program, ()), there_at(program, (), ((2, 0),))],
            [(1, 2, 3), (1, 2, 2)])

    def test_cells_and_comers(self):
        story = ((("make", 0), ("stand", "x", 0)), (("make", 1), ("stand", "y", 1)), (("hold", 1, "f", 0),), (("stand", "x", None),), (("stand", "y", None),), (("ask", 0),), (("ask", 1),))
        self.assertEqual(
            [cells_at(story, 1), reached_at(story, 4), reached_at(story, 5), comers(story, 5, 0), comers(story, 5, 1)],
            [1, (0, 1), (), (0, 1), (1,)])

    def test_steps_hold(self):
        story = ((("make", 0), ("stand", "x", 0)), (("make", 1), ("stand", "y", 1)), (("hold", 1, "f", 0),), (("stand", "x", None),), (("stand", "y", None),), (("ask", 0),), (("ask", 1),))
        steps = ((0, 5, "gone", ("asked", 0)), (1, 5, "gone", ("holder", 0)), (1, 6, "gone", ("later", 1)), (1, 6, "there", ("asked", 1)))
        self.assertEqual(
            [steps_hold(story, (1, 0), steps), steps_hold(story, (1, 0), steps[:3]), steps_hold(story, (1, 1), steps), steps_hold(story, (), ((0, 4, "there", ("reached",)),))],
            ['clash', 'hold', None, 'hold'])

    def test_facts(self):
        facts = Facts(((("make", 0), ("stand", "x", 0)), (("make", 1), ("stand", "y", 1)), (("hold", 1, "f", 0),), (("stand", "x", None),), (("stand", "y", None),), (("ask", 0),), (("ask", 1),)))
        self.assertEqual(
            [facts.fate(0, 4), facts.fate(0, 5), facts.window(0), facts.tell(1), facts.fate(1, 5), facts.window(0), facts.window(1), len(facts)],
            ['there', 'open', (5, None), 1, 'gone', (5, 5), (5, 5), 1])

    def test_facts_again(self):
        story = ((("make", 0), ("stand", "x", 0)), (("make", 1), ("stand", "y", 1)), (("hold", 1, "f", 0),), (("stand", "x", None),), (("stand", "y", None),), (("ask", 1),), (("ask", 0),))
        self.assertEqual(
            [Facts(story).window(0), Facts(story, (0,)).window(0), Facts(story, (0, 1)).window(0), Facts(story, (1, 0)).window(1), Facts(story, (1, 0)).fate(0, 5)],
            [(5, None), (6, None), (6, 6), (5, 5), 'there'])

    def test_led_run(self):
        program = (0, (("make", "x"), ("weak", "x", "f", "x"), ("take", "y", "x", "f"), ("ask", ("set", "y"))))
        self.assertEqual(
            [led_run(program, (), (1,)), led_run(program, (), ())[1:3]],
            [((('no',),), None, ((2, 2, 0),), ((('make', 0), ('stand', 'x', 0)), (), (('ask', 0), ('stand', 'y', None)), ())), (('question', 2), ((2, 2, 0),))])

    def test_ways(self):
        program = (0, (("make", "x"), ("make", "y"), ("weak", "x", "f", "y"), ("hold", "y", "g", "x"), ("drop", "y"), ("ask", ("full", "x", "f")), ("ask", ("full", "x", "f"))))
        self.assertEqual(
            [list(ways(program, ())), [row[0] for row in ways(program, (), paused=(6,))]],
            [[((0, 0), (('yes',), ('yes',)), None, ()), ((0, 1), (('yes',), ('no',)), None, ((6, 1),)), ((1, 1), (('no',), ('no',)), None, ((5, 1),))], [(0, 0), (1, 1)]])

    def test_early_and_late(self):
        program = (0, (("make", "x"), ("make", "y"), ("drop", "y"), ("make", "y"), ("weak", "x", "f", "y"), ("drop", "y"), ("ask", ("full", "x", "f"))))
        self.assertEqual(
            [early_plan(program, (), ()), early_plan(program, (), ((6, 2),)), way_of(program, (), ((3, 1), (6, 2)))[3]],
            [((3, 1),), ((3, 1), (6, 2)), ((6, 2),)])

    def test_each_inputs(self):
        self.assertEqual(
            [list(each_inputs((0, ()))), list(each_inputs((2, ())))],
            [[()], [(0, 0), (0, 1), (1, 0), (1, 1)]])

    def test_noticed(self):
        program = (1, (("make", "x"), ("make", "y"), ("weak", "x", "f", "y"), ("drop", "y"), ("if", ("given", 0), (("ask", ("full", "x", "f")),), (("take", "y", "x", "f"),))))
        self.assertEqual(
            [noticed(program), noticed(program, paused=(5,)), noticed(program, paused=(4, 5))],
            [((1,), ((5, 1),)), ((1,), ((4, 1),)), None])

    def test_alike(self):
        one = (0, (("make", "x"), ("make", "y"), ("weak", "x", "f", "y"), ("drop", "y"), ("take", "y", "x", "f"), ("ask", ("set", "y"))))
        other = (0, (("make", "x"), ("make", "y"), ("hold", "x", "f", "y"), ("drop", "y"), ("take", "y", "x", "f"), ("ask", ("set", "y"))))
        self.assertEqual(
            [alike(one, one), alike(one, other)],
            [None, (0, (), ((4, 1),))])

    def test_table_of(self):
        program = (0, (("make", "r"), ("make", "x"), ("weak", "r", "f", "x"), ("drop", "x"), ("ask", ("full", "r", "f")), ("ask", ("full", "r", "f"))))
        rows, bans = table_of(program, ())
        self.assertEqual(
            [[row[0] for row in rows], [ban[0] for ban in bans]],
            [[(0, 0), (0, 1), (1, 1)], [(1, 0)]])

    def test_table_holds(self):
        program = (0, (("make", "r"), ("make", "x"), ("weak", "r", "f", "x"), ("drop", "x"), ("ask", ("full", "r", "f")), ("ask", ("full", "r", "f"))))
        rows = (((0, 0), ()), ((0, 1), ((5, 1),)), ((1, 1), ((4, 1),)))
        bans = (((1, 0), ((1, 4, "gone", ("asked", 0)), (1, 5, "gone", ("later", 0)), (1, 5, "there", ("asked", 1)))),)
        self.assertEqual(
            [table_holds(program, (), (rows, bans)), table_holds(program, (), (rows, ())), table_holds(program, (), (rows[1:], bans))],
            [True, False, False])

    def test_papers(self):
        program = (0, (("make", "x"), ("ask", ("set", "x"))))
        other = (0, (("make", "r"), ("make", "x"), ("weak", "r", "f", "x"), ("drop", "x"), ("ask", ("full", "r", "f"))))
        self.assertEqual(
            [paper_of(program)[0], paper_of(other)[0], paper_holds(program, ("sure", (((), ((((), ()),), ())),))), paper_holds(other, ("noticed", (), ((3, 1),))), paper_holds(other, ("noticed", (), ((4, 1),)))],
            ['sure', 'noticed', True, False, True])

    def test_fix_changed(self):
        self.assertEqual(
            [Keeps().changed(("make", "x")), Strongs().changed(("weak", "x", "f", "y")), Strongs().changed(("make", "x")), Fix().places_of((0, (("make", "x"),)))],
            [(('make', 'x'), ('keep', 'x')), (('hold', 'x', 'f', 'y'),), (('make', 'x'),), ()])

    def test_fix_fewest(self):
        program = (0, (("make", "x"), ("repeat", 2, (("make", "y"), ("weak", "y", "f", "x"), ("weak", "x", "f", "y"))), ("drop", "y"), ("ask", ("full", "x", "f"))))
        self.assertEqual(
            [Keeps().fewest(program), Strongs().fewest(program), Fix().fewest(program), Keeps().applied(program, (2,))[1][1]],
            [(2,), (4,), None, ('repeat', 2, (('make', 'y'), ('keep', 'y'), ('weak', 'y', 'f', 'x'), ('weak', 'x', 'f', 'y')))])

    def test_keeps_and_pauses(self):
        program = (0, (("make", "x"), ("make", "y"), ("weak", "x", "f", "y"), ("drop", "y"), ("say", "a"), ("ask", ("full", "x", "f"))))
        self.assertEqual(
            [keeps(program), pauses(program), pauses((0, program[1][:4] + (("say", "b"),) * 3 + program[1][4:]))],
            [('keeps', (1,)), ('pauses', (4, 5)), ('many',)])

    def test_room(self):
        program = (0, (("make", "x"), ("make", "y"), ("weak", "x", "f", "y"), ("drop", "y"), ("make", "z"), ("drop", "z"), ("make", "z"), ("ask", ("full", "x", "f"))))
        self.assertEqual(
            [room(program, ())[0], room((0, program[1][:-1]), ())[0]],
            [3, 2])

    def test_quiet_moments(self):
        program = (0, (("make", "x"), ("make", "y"), ("weak", "x", "f", "y"), ("drop", "y"), ("ask", ("full", "x", "f")), ("drop", "x")))
        self.assertEqual(
            [quiet_moments(program, ()), run_passes(program, (), (2, 5)), run_passes(program, (), (4,))],
            [(0, 1, 2, 3, 5), ((('yes',),), None, (0,), ((5, 1),)), ((('no',),), None, (1,), ((4, 1),))])

    def test_fewest_passes(self):
        program = (0, (("repeat", 3, (("make", "x"),)),))
        self.assertEqual(
            [crowded(program, (), (), 2), crowded(program, (), (3,), 2), fewest_passes(program, (), 2), fewest_passes(program, (), 1), fewest_passes(program, (), 3)],
            [3, None, ('passes', (3,)), ('crowded', 2), ('passes', ())])

    def test_rules(self):
        view = (7, 3, ((0, True, True, ()), (1, False, False, (1,)), (2, False, False, ()), (3, False, False, (2,)), (4, False, True, (0,))))
        self.assertEqual(
            [AtOnce()(view), Counting()(view), (AtOnce() - Counting())(view), (Counting() & Places(2))(view), (Counting() | Places(3))(view)],
            [(1, 2, 3), (2, 3), (1,), (), (1, 2, 3)])

    def test_run_by(self):
        program = (0, (("make", "x"), ("make", "y"), ("hold", "y", "f", "y"), ("weak", "x", "f", "y"), ("drop", "y"), ("ask", ("full", "x", "f"))))
        self.assertEqual(
            [run_by(program, (), AtOnce())[0], run_by(program, (), Counting())[0], plan_by(program, (), AtOnce())],
            [(('no',),), (('yes',),), ((5, 1),)])

    def test_parted_by(self):
        program = (1, (("make", "x"), ("make", "y"), ("if", ("given", 0), (("hold", "y", "f", "y"),), ()), ("weak", "x", "f", "y"), ("drop", "y"), ("ask", ("full", "x", "f"))))
        self.assertEqual(
            [parted_by(program, AtOnce(), Counting()), parted_by(program, AtOnce(), AtOnce()), parted_by(program, Counting(), Rule())],
            [(1,), None, (0,)])

    def test_program_text(self):
        self.assertEqual(
            program_text((1, (("make", "x"), ("if", ("not", ("full", "x", "f")), (("weak", "x", "f", "x"),), (("take", "y", "x", "f"),)), ("repeat", 2, ()), ("say", "ok")))),
            'givens 1\nmake x\nif not full x.f\n  x.f ~ x\nelse\n  y = x.f\nrepeat 2\n  pass\nsay ok')

    def test_parse_program(self):
        self.assertEqual(
            parse_program('givens 0\nrepeat 3\n  make x\nx.f = x'),
            (0, (('repeat', 3, (('make', 'x'),)), ('hold', 'x', 'f', 'x'))))
        for text, line in (('givens 0\nmake x\nx.f ~x', 2), ('givens 0\nif set x\ndrop x', 2), ('givens 0\nif x is x\n  pass\nelse', 4)):
            with self.assertRaises(BadText) as caught:
                parse_program(text)
            self.assertEqual(caught.exception.line, line)
        with self.assertRaises(BadProgram) as caught:
            parse_program('givens 0\nask given 0')
        self.assertEqual(caught.exception.error, (0, 'statement'))

    def test_bench_edits(self):
        bench = Bench((0, (("make", "r"), ("make", "x"), ("weak", "r", "f", "x"), ("drop", "x"), ("ask", ("full", "r", "f")))))
        self.assertEqual(
            [bench.verdict() is None, bench.pause(4), bench.verdict() is None, bench.keep(1), bench.pauses, bench.hold(3), bench.program[1][2:4]],
            [False, 1, True, 2, (5,), 3, (('keep', 'x'), ('hold', 'r', 'f', 'x'))])

    def test_bench_signs(self):
        bench = Bench((0, (("repeat", 2, (("make", "x"),)), ("drop", "x"))), (1,))
        self.assertEqual(
            [bench[0], bench.drop(0), bench[0], bench.pauses, len(bench)],
            [('repeat', 2, (('make', 'x'),)), 1, ('drop', 'x'), (), 1])

    def test_bench_undo(self):
        bench = Bench((0, (("make", "x"),)))
        self.assertEqual(
            [bench.add(("drop", "x")), bench.pause(0), bench.undo(), bench.undo(), bench.redo(), bench.program, bench.redo(), bench.pauses],
            [1, 2, 1, 0, 1, (0, (('make', 'x'), ('drop', 'x'))), 2, (0,)])

    def test_bench_attempt(self):
        bench = Bench((0, (("make", "x"),)))
        self.assertEqual(
            [bench.attempt([("add", ("make", "y")), ("pause", 1), ("drop", 0)], watch=lambda held: held.pauses == (1,)), len(bench), bench.pauses, bench.undo(), bench.program],
            [2, 1, (1,), 0, (0, (('make', 'x'),))])
        with self.assertRaises(Rejected) as caught:
            Bench((0, ())).attempt([("add", ("make", "y")), ("pause", 1)])
        self.assertEqual(caught.exception.index, 1)

    def test_bench_queries(self):
        bench = Bench((0, (("make", "r"), ("make", "x"), ("weak", "r", "f", "x"), ("drop", "x"), ("ask", ("full", "r", "f")))))
        self.assertEqual(
            [bench.pause_fewest(), bench.state()[1], bench.state(version=0)[1], len(list(bench.each_way(()))), len(list(bench.each_way((), version=0))), bench.edits()],
            [1, (4,), (), 1, 2, (('pause_fewest',),)])

    def test_sure_bench(self):
        bench = SureBench((0, (("make", "r"), ("make", "x"), ("weak", "r", "f", "x"), ("drop", "x"), ("ask", ("full", "r", "f")))), (4,))
        self.assertEqual(
            [bench.attempt([("resume", 4), ("hold", 2)]), bench.pauses, str(bench), bench.undo(), bench.pauses],
            [2, (), '5 statements, 0 pauses, 1 edits', 0, (4,)])

    def test_console(self):
        console = Console(Bench((0, (("make", "r"), ("make", "x"), ("weak", "r", "f", "x"), ("drop", "x"), ("ask", ("full", "r", "f"))))))
        self.assertEqual(
            [console.execute(line) for line in ('verdict', 'run / 4:1', 'pause 4', 'pause 4', 'verdict', 'add wish x no', 'run /', 'text', 'pause  0')],
            ['noticed', 'no', 'ok 1', 'error PauseThere', 'sure', 'ok 2', 'yes, stop name 5', 'givens 0 | make r | make x | r.f ~ x | drop x | ask full r.f | wish x no', 'unknown command'])


if __name__ == "__main__":
    unittest.main()
