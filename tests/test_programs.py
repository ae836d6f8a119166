"""each_statement, statement_at, weight, wishes_of, make_places and weak_places."""

import copy
import unittest

from maybegone.errors import NoPlace
from maybegone.programs import each_statement, make_places, statement_at, weak_places, weight, wishes_of

INNER_IF = ("if", ("given", 0), (("wish", "x", "b"), ("repeat", 2, (("make", "y"),))), (("wish", "x", "a"),))
REPEAT = ("repeat", 3, (INNER_IF, ("weak", "x", "f", "x")))
PROGRAM = (1, (("make", "x"), REPEAT, ("repeat", 0, (("weak", "x", "f", "x"), ("wish", "x", "c"))), ("if", ("set", "x"), (), ())))
ROWS = [
    (0, 0, ("make", "x")),
    (1, 0, REPEAT),
    (2, 1, INNER_IF),
    (3, 2, ("wish", "x", "b")),
    (4, 2, ("repeat", 2, (("make", "y"),))),
    (5, 3, ("make", "y")),
    (6, 2, ("wish", "x", "a")),
    (7, 1, ("weak", "x", "f", "x")),
    (8, 0, ("repeat", 0, (("weak", "x", "f", "x"), ("wish", "x", "c")))),
    (9, 1, ("weak", "x", "f", "x")),
    (10, 1, ("wish", "x", "c")),
    (11, 0, ("if", ("set", "x"), (), ())),
]
EMPTY = (0, ())
NO_PLACES = (-1, 12, 13, 10 ** 59, -10 ** 59, True, False, None, "", "0", [0], (0,), {}, {0: 0}, ())


class EachStatement(unittest.TestCase):

    def test_rows(self):
        self.assertEqual(list(each_statement(PROGRAM)), ROWS)
        for row in each_statement(PROGRAM):
            self.assertIs(type(row), tuple)

    def test_empty(self):
        self.assertEqual(list(each_statement(EMPTY)), [])

    def test_it_yields(self):
        rows = each_statement(PROGRAM)
        self.assertEqual(next(iter(rows)), ROWS[0])
        self.assertFalse(isinstance(each_statement(PROGRAM), (tuple, list)))

    def test_twice_and_unchanged(self):
        held = copy.deepcopy(PROGRAM)
        self.assertEqual(list(each_statement(PROGRAM)), list(each_statement(PROGRAM)))
        self.assertEqual(PROGRAM, held)

    def test_yes_ahead_of_no(self):
        program = (0, (("if", ("set", "x"), (("say", "a"),), (("say", "b"),)), ("say", "c")))
        self.assertEqual([row[2][1] for row in each_statement(program)][1:], ["a", "b", "c"])

    def test_programs_beyond_the_bounds(self):
        program = (0, (("repeat", 12, (("make", "x"), ("keep", "x")) * 29),))
        self.assertEqual(len(list(each_statement(program))), 59)
        self.assertEqual(weight(program), 1 + 12 * 58)
        self.assertEqual(make_places(program), tuple(range(1, 59, 2)))
        self.assertEqual(statement_at(program, 58), ("keep", "x"))
        with self.assertRaises(NoPlace):
            statement_at(program, 59)


class StatementAt(unittest.TestCase):

    def test_each_place(self):
        for place, _, statement in ROWS:
            self.assertEqual(statement_at(PROGRAM, place), statement)

    def test_no_places(self):
        for value in NO_PLACES:
            with self.subTest(value):
                with self.assertRaises(NoPlace) as held:
                    statement_at(PROGRAM, value)
                self.assertIs(held.exception.place, value)

    def test_empty(self):
        for value in (0, -1, None):
            with self.assertRaises(NoPlace) as held:
                statement_at(EMPTY, value)
            self.assertIs(held.exception.place, value)


class Weight(unittest.TestCase):

    def test_weights(self):
        make = ("make", "x")
        for block, wanted in (
            ((), 0), ((make,), 1), ((make,) * 5, 5),
            ((("if", ("set", "x"), (), ()),), 1),
            ((("if", ("set", "x"), (make,), (make,) * 2),), 4),
            ((("repeat", 0, (make,)),), 1), ((("repeat", 1, ()),), 1), ((("repeat", 5, (make,) * 2),), 11),
            ((("repeat", 2, (("repeat", 3, (make,)), make)), make), 12),
        ):
            with self.subTest(block):
                self.assertEqual(weight((0, block)), wanted)
        # The if weighs 1 + (1 + 3) + 1, the outer repeat 1 + 3 * (6 + 1).
        self.assertEqual(weight(PROGRAM), 1 + 22 + 1 + 1)


class WishesAndPlaces(unittest.TestCase):

    def test_wishes(self):
        self.assertEqual(wishes_of(PROGRAM), ("a", "b", "c"))
        self.assertEqual(wishes_of(EMPTY), ())
        program = (0, (("wish", "x", "b"), ("wish", "y", "a10"), ("wish", "x", "b"), ("wish", "x", "10"), ("ask", ("wished", "z")), ("say", "q")))
        self.assertEqual(wishes_of(program), ("10", "a10", "b"))

    def test_places(self):
        self.assertEqual(make_places(PROGRAM), (0, 5))
        self.assertEqual(weak_places(PROGRAM), (7, 9))
        self.assertEqual(make_places(EMPTY), ())
        self.assertEqual(weak_places(EMPTY), ())
        # A hold is no weak, and names do not matter.
        program = (0, (("hold", "x", "f", "x"), ("name", "make1", "weak1"), ("say", "make")))
        self.assertEqual(make_places(program), ())
        self.assertEqual(weak_places(program), ())

    def test_kinds_of_results(self):
        for result in (wishes_of(PROGRAM), make_places(PROGRAM), weak_places(PROGRAM)):
            self.assertIs(type(result), tuple)
        self.assertIs(type(weight(PROGRAM)), int)
        self.assertIs(type(weight(EMPTY)), int)


if __name__ == "__main__":
    unittest.main()
