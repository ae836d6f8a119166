"""Rules, their operators, and the runs by them."""

import copy
import itertools
import operator
import random
import unittest

from exploring import small_program
from maybegone.fixes import Keeps
from maybegone.programs import make_places
from maybegone.rules import Above, AtOnce, Counting, Places, Rule, parted_by, plan_by, run_by
from maybegone.runs import run, there_at
from maybegone.verdicts import noticed
from maybegone.ways import each_inputs
from reference import Model, random_cases

# Cell 1 holds itself, 3 is held by 2, 4 by 0, for which a name stands; 5 and 6 hold each other, and 7 is held by both and by 2.
VIEW = (7, 3, (
    (0, True, True, ()), (1, False, False, (1,)), (2, False, False, ()), (3, False, False, (2,)), (4, False, True, (0,)),
    (5, False, False, (6,)), (6, False, False, (5,)), (7, False, False, (2, 5, 6))))
SIGNS = {"&": operator.and_, "|": operator.or_, "-": operator.sub}


def slow_counting(rows):
    named = set()
    while True:
        more = {cell for cell, stands, _, holders in rows if not stands and set(holders) <= named} - named
        if not more:
            return named
        named |= more


def slow_names(told, view):
    """The set of what a rule names that is told as a tuple of its name and its values."""
    _, place, rows = view
    loose = {row[0] for row in rows if not row[2]}
    if told[0] in SIGNS:
        return SIGNS[told[0]](slow_names(told[1], view), slow_names(told[2], view))
    return {
        "Rule": lambda: set(), "AtOnce": lambda: loose, "Counting": lambda: slow_counting(rows),
        "Places": lambda: loose if place in told[1:] else set(), "Above": lambda: loose if len(rows) > told[1] else set(),
    }[told[0]]()


def made(told):
    """The rule that is told so."""
    if told[0] in SIGNS:
        return SIGNS[told[0]](made(told[1]), made(told[2]))
    return {"Rule": Rule, "AtOnce": AtOnce, "Counting": Counting, "Places": Places, "Above": Above}[told[0]](*told[1:])


def random_rule(source, operators):
    """A rule with so many operators, as it is told."""
    if operators == 0:
        return source.choice((
            ("Rule",), ("AtOnce",), ("AtOnce",), ("Counting",), ("Counting",), ("Above", source.randrange(-1, 9)),
            ("Places",) + tuple(source.randrange(30) for _ in range(source.randrange(12)))))
    left = source.randrange(operators)
    return (source.choice("&|-"), random_rule(source, left), random_rule(source, operators - 1 - left))


class RuleModel(Model):
    """A run by a rule, which is told."""

    def __init__(self, inputs, told, paused):
        super().__init__(inputs, (), paused)
        self.told = told
        self.views = []

    def collector(self):
        there = [k for k in range(len(self.cells)) if self.cells[k]["gone"] is None]
        rows = []
        for k in there:
            stands = self.cells[k]["kept"] or k in self.names.values()
            holders = {h for h in there if any(kind == "hold" and at == k for kind, at in self.cells[h]["fields"].values())}
            rows.append((k, stands, self.is_reached(k), tuple(sorted(holders))))
        view = (self.moment, self.place, tuple(rows))
        if self.place not in self.paused:
            self.views.append(view)
            for k in self.comes_to(slow_names(self.told, view), set(there)) & set(there):
                self.cells[k]["gone"] = self.moment


def slow_run_by(program, inputs, told, paused=()):
    """What run_by has to return, and the views of the run."""
    model = RuleModel(inputs, told, paused)
    model.play(program[1], 0)
    cleared = sorted((c["gone"], k) for k, c in enumerate(model.cells) if c["gone"] is not None)
    return (tuple(model.answers), model.end, tuple(model.record), tuple(cleared)), model.views


class Names(unittest.TestCase):

    def names(self, told, view):
        rule = made(told)
        found = rule.names(view)
        self.assertIs(type(found), tuple)
        self.assertEqual(found, rule(view))
        self.assertEqual(list(found), sorted(slow_names(told, view)))
        return found

    def test_each_class(self):
        self.assertEqual(self.names(("Rule",), VIEW), ())
        self.assertEqual(self.names(("AtOnce",), VIEW), (1, 2, 3, 5, 6, 7))
        self.assertEqual(self.names(("Counting",), VIEW), (2, 3))

    def test_places(self):
        for places, found in (((), ()), ((3,), (1, 2, 3, 5, 6, 7)), ((2,), ()), ((3, 3), (1, 2, 3, 5, 6, 7)), ((7, 3, 0, 7), (1, 2, 3, 5, 6, 7)),
                              ((-1, 10 ** 30), ()), ((10 ** 30, 3), (1, 2, 3, 5, 6, 7)), ((7, 8), ())):
            self.assertEqual(self.names(("Places",) + places, VIEW), found)

    def test_above(self):
        for most, found in ((-1, 6), (0, 6), (7, 6), (8, 0), (9, 0), (10 ** 59, 0), (-(10 ** 59), 6)):
            self.assertEqual(len(self.names(("Above", most), VIEW)), found)

    def test_views_without_cells(self):
        for told in (("Rule",), ("AtOnce",), ("Counting",), ("Places", 0), ("Above", -1), ("-", ("AtOnce",), ("Rule",))):
            self.assertEqual(self.names(told, (0, 0, ())), ())

    def test_counting_goes_on(self):
        # A chain of two hundred cells, and a ring at its end.
        rows = tuple((k, False, False, (k + 1,)) for k in range(198)) + ((198, False, False, ()), (199, False, False, (199,)))
        self.assertEqual(self.names(("Counting",), (400, 1, rows)), tuple(range(199)))
        rows = ((0, False, True, (1,)),) + tuple((k, False, True, (k + 1,)) for k in range(1, 198)) + ((198, True, True, ()),)
        self.assertEqual(self.names(("Counting",), (400, 1, rows)), ())

    def test_counting_and_names(self):
        # A name stands for cell 1, which only cell 2 holds; cell 0 is held by both.
        rows = ((0, False, True, (1, 2)), (1, True, True, (2,)), (2, False, False, ()))
        self.assertEqual(self.names(("Counting",), (3, 0, rows)), (2,))
        rows = ((0, False, False, (1, 2)), (1, False, False, (2,)), (2, False, False, ()))
        self.assertEqual(self.names(("Counting",), (3, 0, rows)), (0, 1, 2))

    def test_classes(self):
        for owner in (AtOnce, Counting, Places, Above):
            self.assertTrue(issubclass(owner, Rule))
            self.assertIn("names", vars(owner))
        self.assertTrue({"names", "__call__", "__and__", "__or__", "__sub__"} <= set(vars(Rule)))
        for rule in (AtOnce() & Rule(), AtOnce() | Rule(), AtOnce() - Rule()):
            self.assertIsInstance(rule, Rule)

    def test_the_places_are_copied(self):
        places = [3, 4]
        rule = Places(*places)
        places.clear()
        self.assertEqual(rule(VIEW), (1, 2, 3, 5, 6, 7))


class Operators(unittest.TestCase):

    def test_two_rules(self):
        ring, loose = Counting(), AtOnce()
        self.assertEqual([(loose & ring)(VIEW), (loose | ring)(VIEW), (loose - ring)(VIEW), (ring - loose)(VIEW)],
                         [(2, 3), (1, 2, 3, 5, 6, 7), (1, 5, 6, 7), ()])
        self.assertEqual([(Rule() | Rule())(VIEW), (Rule() - loose)(VIEW), (loose - Rule())(VIEW), (loose & loose)(VIEW), (loose - loose)(VIEW)],
                         [(), (), (1, 2, 3, 5, 6, 7), (1, 2, 3, 5, 6, 7), ()])

    def test_both_sides_stay_as_they_are(self):
        one, other = AtOnce(), Counting()
        before = (one(VIEW), other(VIEW))
        both = one & other
        more = both | one - other
        self.assertEqual((one(VIEW), other(VIEW)), before)
        self.assertEqual((both(VIEW), more(VIEW)), ((2, 3), (1, 2, 3, 5, 6, 7)))
        self.assertEqual(both(VIEW), (2, 3))
        one &= other
        self.assertEqual((both(VIEW), one(VIEW), other(VIEW)), ((2, 3), (2, 3), (2, 3)))

    def test_up_to_twenty_operators(self):
        source = random.Random(111)
        views = [view for program, inputs, _, _ in random_cases(112, 30) for view in slow_run_by(program, inputs, ("Rule",))[1]]
        self.assertGreater(len(views), 100)
        naming = 0
        for number in range(400):
            told = random_rule(source, number % 21)
            rule = made(told)
            for view in [VIEW] + source.sample(views, 6):
                held = copy.deepcopy(view)
                found = rule(view)
                self.assertEqual(list(found), sorted(slow_names(told, view)))
                self.assertEqual((found, found), (rule(view), rule.names(view)))
                self.assertEqual(view, held)
                naming += bool(found)
        self.assertGreater(naming, 300)

    def test_the_same_rule_in_several_places(self):
        rule = AtOnce()
        for _ in range(20):
            rule = rule - Counting()
        self.assertEqual(rule(VIEW), (1, 5, 6, 7))
        rule = Counting()
        for _ in range(4):
            rule = rule | rule
        self.assertEqual(rule(VIEW), (2, 3))


class Runs(unittest.TestCase):

    def run_by(self, program, inputs, told, paused=()):
        found = run_by(program, inputs, made(told), paused=paused)
        self.assertEqual(found, slow_run_by(program, inputs, told, paused)[0])
        return found

    def test_no_rule(self):
        for program, inputs, _, paused in random_cases(113, 60):
            self.assertEqual(run_by(program, inputs, Rule()), run(program, inputs))
            self.assertEqual(run_by(program, inputs, AtOnce(), paused=tuple(range(200))), run(program, inputs))

    def test_at_once(self):
        program = (0, (("make", "x"), ("make", "y"), ("hold", "y", "f", "x"), ("drop", "x"), ("drop", "y"), ("say", "a")))
        self.assertEqual(self.run_by(program, (), ("AtOnce",))[3], ((5, 0), (5, 1)))
        self.assertEqual(self.run_by(program, (), ("Counting",))[3], ((5, 0), (5, 1)))

    def test_cells_that_come_to_a_named_one_are_cleared_with_it(self):
        # Cell 0 is held by cell 1, which holds itself, and by cell 2.
        rows = (("make", "x"), ("make", "y"), ("hold", "y", "f", "x"), ("hold", "y", "g", "y"), ("make", "z"), ("hold", "z", "f", "x"),
                ("drop", "x"), ("drop", "y"), ("drop", "z"), ("say", "a"))
        view = slow_run_by((0, rows), (), ("Rule",))[1][9]
        self.assertEqual(view, (9, 9, ((0, False, False, (1, 2)), (1, False, False, (1,)), (2, False, False, ()))))
        self.assertEqual(self.run_by((0, rows), (), ("Counting",))[3], ((9, 2),))
        self.assertEqual((AtOnce() - Counting())(view), (0, 1))
        self.assertEqual(self.run_by((0, rows), (), ("-", ("AtOnce",), ("Counting",)), (8,))[3], ((9, 0), (9, 1), (9, 2)))

    def test_places_and_paused_places(self):
        program = (0, (("make", "x"), ("drop", "x"), ("say", "a"), ("repeat", 2, (("make", "x"), ("say", "b")))))
        self.assertEqual(self.run_by(program, (), ("Places", 5))[3], ((5, 0), (7, 1)))
        self.assertEqual(self.run_by(program, (), ("AtOnce",))[3], ((2, 0), (7, 1)))
        self.assertEqual(self.run_by(program, (), ("AtOnce",), (2,))[3], ((3, 0), (7, 1)))
        self.assertEqual(self.run_by(program, (), ("AtOnce",), (2, 3, 4))[3], ((5, 0), (7, 1)))
        self.assertEqual(self.run_by(program, (), ("AtOnce",), (2, 3, 4, 5))[3], ())
        self.assertEqual(self.run_by(program, (), ("Places", 4, 4, 90), (3,))[3], ((4, 0),))
        self.assertEqual(self.run_by(program, (), ("Places", 4), (4,))[3], ())

    def test_above(self):
        program = (0, (("repeat", 5, (("make", "x"),)),))
        for most, cleared in ((-1, ((3, 0), (4, 1), (5, 2))), (1, ((3, 0), (4, 1), (5, 2))), (2, ((4, 0), (4, 1))), (3, ((5, 0), (5, 1), (5, 2))), (4, ()), (10 ** 50, ())):
            self.assertEqual(self.run_by(program, (), ("Above", most))[3], cleared)

    def test_walked_statement_by_statement(self):
        source = random.Random(114)
        clearing = noticing = 0
        for program, inputs, _, paused in random_cases(115, 500):
            told = random_rule(source, source.choice((0, 0, 1, 2, 5, 20)))
            rule = made(told)
            held = copy.deepcopy((program, inputs, paused))
            found = self.run_by(program, inputs, told, paused)
            self.assertEqual(found, run_by(program, inputs, rule, paused=paused))
            self.assertEqual(plan_by(program, inputs, rule, paused=paused), found[3])
            self.assertEqual((program, inputs, paused), held)
            # It is the run with the plan of the rule, with and without what is paused.
            self.assertEqual(run(program, inputs, plan_by(program, inputs, rule, paused=paused), paused=paused), found)
            self.assertEqual(run(program, inputs, plan_by(program, inputs, rule, paused=paused)), found)
            clearing += bool(found[3])
            noticing += found[:2] != run(program, inputs)[:2]
        self.assertGreater(min(clearing, noticing), 50)

    def test_kinds_of_results(self):
        program = (0, (("make", "x"), ("drop", "x"), ("say", "a")))
        self.assertEqual(run_by(program, (), AtOnce()), ((("said", "a"),), None, (), ((2, 0),)))
        self.assertIs(type(plan_by(program, (), AtOnce())), tuple)
        self.assertEqual(plan_by((0, ()), (), AtOnce()), ())
        self.assertEqual(run_by((0, ()), (), AtOnce()), ((), None, (), ()))

    def test_long_runs(self):
        rows = (("make", "r"), ("repeat", 12, (("make", "x"), ("hold", "r", "f", "x"), ("make", "y"), ("hold", "y", "f", "x"), ("make", "z")) * 3))
        program = Keeps().applied((0, rows), make_places((0, rows))[3:4])
        for told in (("AtOnce",), ("Counting",), ("Above", 20), ("Places", 4, 9), random_rule(random.Random(116), 20)):
            found = run_by(program, (), made(told))
            self.assertEqual(run(program, (), found[3]), found)
            self.assertEqual(len(there_at(program, (), found[3])), 2 + 12 * 16)


class PartedBy(unittest.TestCase):

    def test_on_some_inputs_only(self):
        ring = ("hold", "y", "f", "y")
        for inputs in itertools.product((0, 1), repeat=2):
            test = ("given", 0) if inputs[0] else ("not", ("given", 0))
            other = ("given", 1) if inputs[1] else ("not", ("given", 1))
            program = (2, (("make", "x"), ("make", "y"), ("if", test, (("if", other, (ring,), ()),), ()), ("weak", "x", "f", "y"), ("drop", "y"), ("ask", ("full", "x", "f"))))
            self.assertEqual(parted_by(program, AtOnce(), Counting()), inputs)
            self.assertEqual(parted_by(program, Counting(), AtOnce()), inputs)
            self.assertIsNone(parted_by(program, AtOnce(), Above(0)))
            self.assertIsNone(parted_by(program, AtOnce(), AtOnce()))

    def test_the_records_do_not_count(self):
        program = (0, (("make", "x"), ("make", "y"), ("weak", "x", "f", "y"), ("drop", "y"), ("if", ("full", "x", "f"), (), ())))
        self.assertNotEqual(run_by(program, (), Rule())[2], run_by(program, (), AtOnce())[2])
        self.assertIsNone(parted_by(program, Rule(), AtOnce()))

    def test_the_place_of_a_stop_counts(self):
        program = (0, (("make", "x"), ("make", "y"), ("weak", "x", "f", "y"), ("drop", "y"), ("take", "y", "x", "f"), ("name", "x", "y"), ("keep", "z")))
        self.assertEqual([run_by(program, (), rule)[1] for rule in (Rule(), AtOnce())], [("name", 6), ("name", 5)])
        self.assertEqual(parted_by(program, Rule(), AtOnce()), ())

    def test_no_givens_and_no_statements(self):
        self.assertIsNone(parted_by((0, ()), Rule(), AtOnce()))
        self.assertIsNone(parted_by((3, ()), Rule(), AtOnce()))

    def test_random_programs(self):
        source = random.Random(117)
        found = {True: 0, False: 0}
        for _ in range(300):
            program = small_program(source)
            rules = (random_rule(source, source.randrange(3)), random_rule(source, source.randrange(3)))
            held = copy.deepcopy(program)
            result = parted_by(program, made(rules[0]), made(rules[1]))
            self.assertEqual(result, parted_by(program, made(rules[0]), made(rules[1])))
            self.assertEqual(program, held)
            parted = [inputs for inputs in each_inputs(program) if len({slow_run_by(program, inputs, told)[0][:2] for told in rules}) == 2]
            if parted:
                self.assertIn(result, parted)
                self.assertIsNotNone(noticed(program))
            else:
                self.assertIsNone(result)
            found[bool(parted)] += 1
        self.assertGreater(min(found.values()), 40)


if __name__ == "__main__":
    unittest.main()
