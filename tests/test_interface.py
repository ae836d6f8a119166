"""What the interface lists: each function in its file, with its arguments."""

import inspect
import unittest

from maybegone import benches, consoles, fixes, leads, papers, passes, programs, rooms, rules, runs, stories, texts, verdicts, ways

FUNCTIONS = (
    (programs, "program_error", "(value)"),
    (programs, "each_statement", "(program)"),
    (programs, "statement_at", "(program, place)"),
    (programs, "weight", "(program)"),
    (programs, "wishes_of", "(program)"),
    (programs, "make_places", "(program)"),
    (programs, "weak_places", "(program)"),
    (runs, "run", "(program, inputs, plan=(), *, paused=())"),
    (runs, "there_at", "(program, inputs, plan=(), *, paused=())"),
    (stories, "cells_at", "(story, moment)"),
    (stories, "reached_at", "(story, moment)"),
    (stories, "comers", "(story, moment, cell)"),
    (stories, "steps_hold", "(story, answers, value)"),
    (leads, "led_run", "(program, inputs, answers)"),
    (ways, "ways", "(program, inputs, *, paused=())"),
    (ways, "way_of", "(program, inputs, plan, *, paused=())"),
    (ways, "early_plan", "(program, inputs, plan)"),
    (ways, "each_inputs", "(program)"),
    (verdicts, "noticed", "(program, *, paused=())"),
    (verdicts, "alike", "(one, other)"),
    (papers, "table_of", "(program, inputs)"),
    (papers, "table_holds", "(program, inputs, value)"),
    (papers, "paper_of", "(program)"),
    (papers, "paper_holds", "(program, value)"),
    (fixes, "keeps", "(program)"),
    (fixes, "pauses", "(program)"),
    (rooms, "room", "(program, inputs)"),
    (passes, "run_passes", "(program, inputs, moments)"),
    (passes, "quiet_moments", "(program, inputs)"),
    (passes, "crowded", "(program, inputs, moments, limit)"),
    (passes, "fewest_passes", "(program, inputs, limit)"),
    (rules, "run_by", "(program, inputs, rule, *, paused=())"),
    (rules, "plan_by", "(program, inputs, rule, *, paused=())"),
    (rules, "parted_by", "(program, one, other)"),
    (texts, "program_text", "(program)"),
    (texts, "parse_program", "(value)"),
)
METHODS = (
    (stories, stories.Facts, "__init__", "(self, story, answers=())"),
    (stories, stories.Facts, "__len__", "(self)"),
    (stories, stories.Facts, "tell", "(self, answer)"),
    (stories, stories.Facts, "twin", "(self)"),
    (stories, stories.Facts, "fate", "(self, cell, moment)"),
    (stories, stories.Facts, "reasons", "(self, cell, moment)"),
    (stories, stories.Facts, "window", "(self, cell)"),
    (fixes, fixes.Fix, "places_of", "(self, program)"),
    (fixes, fixes.Fix, "changed", "(self, statement)"),
    (fixes, fixes.Fix, "applied", "(self, program, places)"),
    (fixes, fixes.Fix, "fewest", "(self, program)"),
    (fixes, fixes.Keeps, "places_of", "(self, program)"),
    (fixes, fixes.Keeps, "changed", "(self, statement)"),
    (fixes, fixes.Strongs, "places_of", "(self, program)"),
    (fixes, fixes.Strongs, "changed", "(self, statement)"),
    (rules, rules.Rule, "__call__", "(self, view)"),
    (rules, rules.Rule, "__and__", "(self, other)"),
    (rules, rules.Rule, "__or__", "(self, other)"),
    (rules, rules.Rule, "__sub__", "(self, other)"),
    (rules, rules.Rule, "names", "(self, view)"),
    (rules, rules.AtOnce, "names", "(self, view)"),
    (rules, rules.Counting, "names", "(self, view)"),
    (rules, rules.Places, "names", "(self, view)"),
    (rules, rules.Places, "__init__", "(self, *places)"),
    (rules, rules.Above, "names", "(self, view)"),
    (rules, rules.Above, "__init__", "(self, most)"),
    (benches, benches.Bench, "__init__", "(self, program, pauses=())"),
    (benches, benches.Bench, "__getitem__", "(self, at)"),
    (benches, benches.Bench, "__setitem__", "(self, at, worth)"),
    (benches, benches.Bench, "__iadd__", "(self, other)"),
    (benches, benches.Bench, "__isub__", "(self, other)"),
    (benches, benches.Bench, "__ior__", "(self, other)"),
    (benches, benches.Bench, "__len__", "(self)"),
    (benches, benches.Bench, "__str__", "(self)"),
    (benches, benches.Bench, "__eq__", "(self, other)"),
    (benches, benches.Bench, "add", "(self, statement)"),
    (benches, benches.Bench, "drop", "(self, place)"),
    (benches, benches.Bench, "change", "(self, place, statement)"),
    (benches, benches.Bench, "keep", "(self, place)"),
    (benches, benches.Bench, "hold", "(self, place)"),
    (benches, benches.Bench, "pause", "(self, place)"),
    (benches, benches.Bench, "resume", "(self, place)"),
    (benches, benches.Bench, "pause_fewest", "(self)"),
    (benches, benches.Bench, "undo", "(self)"),
    (benches, benches.Bench, "redo", "(self)"),
    (benches, benches.Bench, "attempt", "(self, edits, *, watch=None)"),
    (benches, benches.Bench, "verdict", "(self)"),
    (benches, benches.Bench, "outcome", "(self, inputs, plan)"),
    (benches, benches.Bench, "state", "(self, *, version=None)"),
    (benches, benches.Bench, "each_way", "(self, inputs, *, version=None)"),
    (benches, benches.Bench, "edits", "(self)"),
    (consoles, consoles.Console, "__init__", "(self, bench)"),
    (consoles, consoles.Console, "execute", "(self, line)"),
)


class Interface(unittest.TestCase):

    def test_each_function(self):
        for module, name, arguments in FUNCTIONS:
            with self.subTest(name):
                function = getattr(module, name)
                self.assertTrue(inspect.isfunction(function))
                self.assertEqual(function.__module__, module.__name__)
                self.assertEqual(str(inspect.signature(function)), arguments)

    def test_each_method_stands_in_its_class(self):
        for module, owner, name, arguments in METHODS:
            with self.subTest(name, owner=owner):
                self.assertEqual(owner.__module__, module.__name__)
                self.assertEqual(str(inspect.signature(vars(owner)[name])), arguments)

    def test_attributes_are_set_from_the_beginning(self):
        self.assertEqual(sorted(name for name in vars(stories.Facts(())) if not name.startswith("_")), ["story", "told"])

    def test_sure_bench(self):
        self.assertTrue(issubclass(benches.SureBench, benches.Bench))
        self.assertEqual(benches.SureBench.__module__, benches.__name__)
        self.assertEqual(benches.Bench.MOST_EDITS, 60)

    def test_generators(self):
        for made in (ways.ways((0, ()), ()), ways.each_inputs((0, ())), benches.Bench((0, ())).each_way(())):
            self.assertIs(iter(made), made)

    def test_paused_is_passed_by_keyword(self):
        for function in (runs.run, runs.there_at, ways.way_of):
            self.assertRaises(TypeError, function, (0, ()), (), (), ())
        self.assertRaises(TypeError, ways.ways, (0, ()), (), ())
        self.assertRaises(TypeError, verdicts.noticed, (0, ()), ())
        for function in (rules.run_by, rules.plan_by):
            self.assertRaises(TypeError, function, (0, ()), (), rules.Rule(), ())


if __name__ == "__main__":
    unittest.main()
