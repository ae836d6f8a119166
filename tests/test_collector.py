"""What the collector clears: plans, paused places and moments."""

import unittest

from maybegone.runs import run, there_at

SAY = ("say", "a")


def cleared_by(plan, *block, paused=(), inputs=()):
    return run((len(inputs), block), inputs, plan, paused=paused)[3]


class Reached(unittest.TestCase):

    def test_named_cells(self):
        self.assertEqual(cleared_by(((1, 0),), ("make", "x"), SAY), ())
        self.assertEqual(cleared_by(((2, 0),), ("make", "x"), ("drop", "x"), SAY), ((2, 0),))
        self.assertEqual(cleared_by(((3, 0),), ("make", "x"), ("name", "y", "x"), ("drop", "x"), SAY), ())

    def test_through_strong_fields(self):
        block = (("make", "x"), ("make", "y"), ("make", "z"), ("hold", "x", "f", "y"), ("hold", "y", "f", "z"), ("drop", "y"), ("drop", "z"), SAY)
        self.assertEqual(cleared_by(((7, 0), (7, 1), (7, 2)), *block), ())

    def test_not_through_weak_fields(self):
        block = (("make", "x"), ("make", "y"), ("make", "z"), ("weak", "x", "f", "y"), ("hold", "y", "f", "z"), ("drop", "y"), ("drop", "z"), SAY)
        self.assertEqual(cleared_by(((7, 2),), *block), ((7, 1), (7, 2)))
        self.assertEqual(cleared_by(((7, 1),), *block), ((7, 1),))

    def test_not_backwards(self):
        block = (("make", "x"), ("make", "y"), ("hold", "y", "f", "x"), ("drop", "y"), SAY)
        self.assertEqual(cleared_by(((4, 0), (4, 1)), *block), ((4, 1),))

    def test_kept_cells(self):
        block = (("make", "x"), ("make", "y"), ("hold", "x", "f", "y"), ("keep", "x"), ("drop", "x"), ("drop", "y"), SAY)
        self.assertEqual(cleared_by(((6, 0), (6, 1)), *block), ())
        block = (("make", "x"), ("make", "y"), ("hold", "x", "f", "y"), ("keep", "y"), ("drop", "x"), ("drop", "y"), SAY)
        self.assertEqual(cleared_by(((6, 0), (6, 1)), *block), ((6, 0),))

    def test_a_kept_cell_is_kept_for_good(self):
        block = (("make", "x"), ("keep", "x"), ("make", "x"), SAY)
        self.assertEqual(cleared_by(((2, 0), (3, 0)), *block), ())

    def test_reached_again(self):
        block = (("make", "x"), ("make", "y"), ("weak", "x", "f", "y"), ("drop", "y"), ("take", "y", "x", "f"), ("drop", "y"), SAY)
        self.assertEqual(cleared_by(((5, 1),), *block), ())
        self.assertEqual(cleared_by(((4, 1),), *block), ((4, 1),))
        self.assertEqual(cleared_by(((6, 1),), *block), ((6, 1),))


class Comers(unittest.TestCase):

    def test_all_that_come_to_it(self):
        # 2 holds 1, 1 holds 0, 3 holds 2.
        block = (
            ("make", "x"), ("make", "y"), ("hold", "y", "f", "x"), ("make", "z"), ("hold", "z", "f", "y"), ("make", "t"),
            ("hold", "t", "f", "z"), ("drop", "x"), ("drop", "y"), ("drop", "z"), ("drop", "t"), SAY, SAY,
        )
        self.assertEqual(cleared_by(((11, 0),), *block), ((11, 0), (11, 1), (11, 2), (11, 3)))
        self.assertEqual(cleared_by(((11, 1),), *block), ((11, 1), (11, 2), (11, 3)))
        self.assertEqual(cleared_by(((11, 3),), *block), ((11, 3),))
        self.assertEqual(cleared_by(((11, 3), (12, 1)), *block), ((11, 3), (12, 1), (12, 2)))

    def test_weak_fields_do_not_count(self):
        block = (("make", "x"), ("make", "y"), ("weak", "y", "f", "x"), ("drop", "x"), ("drop", "y"), SAY)
        self.assertEqual(cleared_by(((5, 0),), *block), ((5, 0),))

    def test_fields_that_were_cut_or_filled_anew_do_not_count(self):
        start = (("make", "x"), ("make", "y"), ("hold", "y", "f", "x"))
        behind = (("drop", "x"), ("drop", "y"), SAY)
        for between in (("cut", "y", "f"), ("weak", "y", "f", "x"), ("hold", "y", "f", "y")):
            self.assertEqual(cleared_by(((6, 0),), *start, between, *behind), ((6, 0),))
        self.assertEqual(cleared_by(((6, 0),), *start, ("hold", "y", "g", "x"), *behind), ((6, 0), (6, 1)))

    def test_two_fields(self):
        block = (("make", "x"), ("make", "y"), ("hold", "y", "f", "x"), ("hold", "y", "g", "x"), ("cut", "y", "f"), ("drop", "x"), ("drop", "y"), SAY)
        self.assertEqual(cleared_by(((7, 0),), *block), ((7, 0), (7, 1)))

    def test_rings(self):
        block = (
            ("make", "x"), ("make", "y"), ("make", "z"), ("hold", "x", "f", "y"), ("hold", "y", "f", "z"), ("hold", "z", "f", "x"),
            ("drop", "x"), ("drop", "y"), SAY, ("drop", "z"), SAY,
        )
        self.assertEqual(cleared_by(((8, 0), (9, 1)), *block), ())
        for cell in range(3):
            self.assertEqual(cleared_by(((10, cell),), *block), ((10, 0), (10, 1), (10, 2)))

    def test_a_cell_that_holds_itself(self):
        block = (("make", "x"), ("hold", "x", "f", "x"), ("drop", "x"), SAY)
        self.assertEqual(cleared_by(((3, 0),), *block), ((3, 0),))
        self.assertEqual(cleared_by(((2, 0),), *block), ())

    def test_a_ring_and_what_it_holds(self):
        block = (
            ("make", "x"), ("make", "y"), ("make", "z"), ("hold", "x", "f", "y"), ("hold", "y", "f", "x"), ("hold", "x", "g", "z"),
            ("drop", "x"), ("drop", "y"), ("drop", "z"), SAY,
        )
        self.assertEqual(cleared_by(((9, 1),), *block), ((9, 0), (9, 1)))
        self.assertEqual(cleared_by(((9, 2),), *block), ((9, 0), (9, 1), (9, 2)))

    def test_cleared_ones_are_not_cleared_again(self):
        block = (("make", "x"), ("make", "y"), ("hold", "y", "f", "x"), ("drop", "x"), ("drop", "y"), SAY, SAY)
        self.assertEqual(cleared_by(((5, 1), (6, 0)), *block), ((5, 1), (6, 0)))


class Plans(unittest.TestCase):

    def test_not_made_yet(self):
        block = (("make", "x"), ("drop", "x"), ("make", "x"), ("drop", "x"), SAY)
        self.assertEqual(cleared_by(((0, 0), (1, 0), (1, 1), (2, 1), (3, 7)), *block), ())
        self.assertEqual(cleared_by(((2, 1), (4, 1)), *block), ((4, 1),))

    def test_cleared_already(self):
        block = (("make", "x"), ("drop", "x"), SAY, SAY)
        self.assertEqual(cleared_by(((2, 0), (3, 0)), *block), ((2, 0),))

    def test_cleared_by_an_earlier_pair_of_the_moment(self):
        block = (("make", "x"), ("make", "y"), ("hold", "y", "f", "x"), ("drop", "x"), ("drop", "y"), SAY)
        self.assertEqual(cleared_by(((5, 0), (5, 1)), *block), ((5, 0), (5, 1)))

    def test_several_at_one_moment(self):
        block = (("make", "x"), ("make", "x"), ("make", "x"), ("drop", "x"), SAY)
        self.assertEqual(cleared_by(((4, 0), (4, 2)), *block), ((4, 0), (4, 2)))
        self.assertEqual(cleared_by(((3, 0), (4, 1), (4, 2)), *block), ((3, 0), (4, 1), (4, 2)))

    def test_a_reached_one_is_passed_over_the_others_are_not(self):
        block = (("make", "x"), ("make", "y"), ("make", "z"), ("drop", "x"), ("drop", "z"), SAY)
        self.assertEqual(cleared_by(((5, 0), (5, 1), (5, 2)), *block), ((5, 0), (5, 2)))

    def test_a_cell_that_a_reached_one_holds_weakly_while_unreached_ones_come_to_a_reached_one(self):
        block = (("make", "x"), ("make", "y"), ("hold", "y", "f", "x"), ("drop", "y"), SAY)
        # Clearing the reached cell 0 is passed over, so its holder stays there.
        self.assertEqual(cleared_by(((4, 0),), *block), ())

    def test_moments_that_the_run_does_not_have(self):
        block = (("make", "x"), ("drop", "x"))
        self.assertEqual(cleared_by(((2, 0), (3, 0), (10 ** 6, 0), (10 ** 6, 10 ** 6)), *block), ())
        self.assertEqual(cleared_by(((0, 0),)), ())

    def test_long_plans(self):
        plan = tuple([(moment, cell) for moment in range(40) for cell in range(10)])
        self.assertEqual(cleared_by(plan, ("repeat", 5, (("make", "x"),)), ("drop", "x"), SAY), ((3, 0), (4, 1), (5, 2), (6, 3), (7, 4)))
        self.assertEqual(cleared_by(plan + ((50, 0),), ("make", "x"), ("drop", "x"), SAY), ((2, 0),))

    def test_the_collector_acts_ahead_of_the_statement(self):
        block = (("make", "x"), ("make", "y"), ("weak", "x", "f", "y"), ("drop", "y"), ("take", "y", "x", "f"), ("ask", ("set", "y")))
        self.assertEqual(run((0, block), (), ((3, 1),))[0], (("yes",),))
        self.assertEqual(run((0, block), (), ((4, 1),))[0], (("no",),))
        self.assertEqual(run((0, block), (), ((5, 1),))[0], (("yes",),))

    def test_the_plan_is_not_needed(self):
        self.assertEqual(run((0, (SAY,)), ()), run((0, (SAY,)), (), ()))
        self.assertEqual(run((0, (SAY,)), (), ()), run((0, (SAY,)), (), plan=(), paused=()))


class Paused(unittest.TestCase):

    BLOCK = (("make", "x"), ("drop", "x"), ("say", "a"), ("say", "b"))

    def test_paused_places(self):
        self.assertEqual(cleared_by(((2, 0),), *self.BLOCK, paused=(2,)), ())
        self.assertEqual(cleared_by(((2, 0), (3, 0)), *self.BLOCK, paused=(2,)), ((3, 0),))
        self.assertEqual(cleared_by(((2, 0), (3, 0)), *self.BLOCK, paused=(2, 3)), ())
        self.assertEqual(cleared_by(((2, 0),), *self.BLOCK, paused=(0, 1, 3)), ((2, 0),))

    def test_places_are_not_moments(self):
        # The statement at place 1 has the moments 1, 2 and 3, the one at place 2 has 4.
        block = (("repeat", 3, (("make", "x"),)), ("drop", "x"), SAY)
        plan = ((2, 0), (3, 1), (4, 1), (5, 2))
        self.assertEqual(cleared_by(((2, 0), (3, 0), (4, 1), (5, 2)), *block), ((3, 0), (4, 1), (5, 2)))
        self.assertEqual(cleared_by(((3, 0), (4, 1), (5, 2)), *block, paused=(1,)), ((4, 1), (5, 2)))
        self.assertEqual(cleared_by(((3, 0), (4, 1), (5, 2)), *block, paused=(2,)), ((3, 0), (5, 2)))
        self.assertEqual(cleared_by(((3, 0), (4, 1), (5, 2)), *block, paused=(3,)), ((3, 0), (4, 1)))
        self.assertEqual(cleared_by(plan, *block, paused=(0, 1, 2, 3)), ())

    def test_there_at(self):
        self.assertEqual(there_at((0, self.BLOCK), (), ((2, 0),)), (1, 1, 0, 0))
        self.assertEqual(there_at((0, self.BLOCK), (), ((2, 0),), paused=(2,)), (1, 1, 1, 1))

    def test_ifs_and_repeats_can_be_paused(self):
        block = (("make", "x"), ("drop", "x"), ("if", ("given", 0), (SAY,), (SAY, SAY)), ("repeat", 1, (SAY,)))
        self.assertEqual(cleared_by(((2, 0),), *block, paused=(2,), inputs=(1,)), ())
        # With given 0 the places of the moments are 0, 1, 2, 3, 6, 7.
        self.assertEqual(cleared_by(((4, 0),), *block, paused=(6,), inputs=(1,)), ())
        self.assertEqual(cleared_by(((4, 0),), *block, paused=(4, 5, 7), inputs=(1,)), ((4, 0),))
        # Otherwise they are 0, 1, 2, 4, 5, 6, 7.
        self.assertEqual(cleared_by(((4, 0),), *block, paused=(5,), inputs=(0,)), ())
        self.assertEqual(cleared_by(((4, 0),), *block, paused=(3, 4, 6, 7), inputs=(0,)), ((4, 0),))


class Moments(unittest.TestCase):

    def moments_of(self, *block, inputs=()):
        return len(there_at((len(inputs), block), inputs))

    def test_ifs_and_repeats_are_executed_themselves(self):
        self.assertEqual(self.moments_of(("if", ("set", "x"), (SAY,), ())), 1)
        self.assertEqual(self.moments_of(("if", ("set", "x"), (), (SAY, SAY))), 3)
        self.assertEqual(self.moments_of(("repeat", 0, (SAY,))), 1)
        self.assertEqual(self.moments_of(("repeat", 12, ())), 1)
        self.assertEqual(self.moments_of(("repeat", 3, (SAY, SAY))), 7)
        self.assertEqual(self.moments_of(("repeat", 3, (("repeat", 2, (SAY,)), SAY))), 1 + 3 * (3 + 1))
        self.assertEqual(self.moments_of(("repeat", 2, (("repeat", 0, (SAY,)), ("if", ("set", "x"), (SAY,), ())))), 5)

    def test_the_collector_acts_at_each_of_them(self):
        block = (("make", "x"), ("drop", "x"), ("repeat", 0, (SAY,)), ("repeat", 2, ()), ("if", ("set", "x"), (), ()), ("repeat", 2, (("if", ("given", 0), (), (SAY,)),)), SAY)
        for given, last in ((1, 8), (0, 10)):
            self.assertEqual(self.moments_of(*block, inputs=(given,)), last + 1)
            for moment in range(2, last + 1):
                self.assertEqual(cleared_by(((moment, 0),), *block, inputs=(given,)), ((moment, 0),))
            for moment in (0, 1, last + 1):
                self.assertEqual(cleared_by(((moment, 0),), *block, inputs=(given,)), ())

    def test_in_the_rounds_of_a_repeat(self):
        # Round k has the moments 2 * k + 1 and 2 * k + 2.
        block = (("repeat", 4, (("make", "x"), ("drop", "x"))), SAY)
        plan = ((3, 0), (6, 1), (8, 2), (9, 3))
        self.assertEqual(cleared_by(plan, *block), plan)
        self.assertEqual(there_at((0, block), (), plan), (0, 1, 1, 1, 1, 2, 1, 2, 1, 0))


class ThereAt(unittest.TestCase):

    def test_counts(self):
        block = (("make", "x"), ("make", "y"), ("hold", "x", "f", "y"), ("drop", "y"), ("drop", "x"), SAY, ("make", "x"))
        self.assertEqual(there_at((0, block), ()), (1, 2, 2, 2, 2, 2, 3))
        self.assertEqual(there_at((0, block), (), ((5, 0),)), (1, 2, 2, 2, 2, 1, 2))
        self.assertEqual(there_at((0, block), (), ((5, 1),)), (1, 2, 2, 2, 2, 0, 1))
        self.assertEqual(there_at((0, block), (), ((6, 1),)), (1, 2, 2, 2, 2, 2, 1))

    def test_the_statement_that_stops(self):
        self.assertEqual(there_at((0, (("keep", "x"),)), ()), (0,))
        self.assertEqual(there_at((0, (("make", "x"), ("keep", "y"), ("make", "z"))), ()), (1, 1))


if __name__ == "__main__":
    unittest.main()
