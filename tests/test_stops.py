"""How runs stop and end."""

import unittest

from maybegone.runs import run, there_at

MAKE_X = ("make", "x")


def end_of(*block):
    return run((0, block), ())[1]


def asker(cells, times):
    """A block with a weak field f of x that holds it, and as many cells with the wish w."""
    return (
        ("repeat", cells, (("make", "x"), ("wish", "x", "w"))),
        ("weak", "x", "f", "x"),
        ("repeat", times, (("ask", ("wished", "w")),)),
    )


class NameStops(unittest.TestCase):

    def test_each_place_where_a_name_needs_a_cell(self):
        for statement in (
            ("wish", "n", "w"), ("keep", "n"), ("hold", "n", "f", "x"), ("hold", "x", "f", "n"), ("hold", "n", "f", "n"),
            ("weak", "n", "f", "x"), ("weak", "x", "f", "n"), ("cut", "n", "f"), ("name", "x", "n"), ("name", "n", "n"),
            ("take", "x", "n", "f"), ("take", "n", "n", "f"), ("ask", ("same", "n", "x")), ("ask", ("same", "x", "n")),
            ("ask", ("same", "n", "n")), ("ask", ("full", "n", "f")), ("ask", ("not", ("full", "n", "f"))),
            ("ask", ("not", ("not", ("same", "x", "n")))), ("if", ("full", "n", "f"), (MAKE_X,), (MAKE_X,)),
            ("if", ("not", ("same", "n", "x")), (MAKE_X,), (MAKE_X,)),
        ):
            with self.subTest(statement):
                block = (MAKE_X, ("say", "a"), statement, ("say", "b"))
                self.assertEqual(run((0, block), ()), ((("said", "a"),), ("name", 2), (), ()))
                self.assertEqual(there_at((0, block), ()), (1, 1, 1))
                dropped = (MAKE_X, ("make", "n"), ("drop", "n"), statement)
                self.assertEqual(end_of(*dropped), ("name", 3))

    def test_places_where_none_is_needed(self):
        for statement in (
            ("make", "n"), ("name", "n", "x"), ("drop", "n"), ("cut", "x", "n"), ("take", "n", "x", "f"), ("say", "n"),
            ("ask", ("set", "n")), ("ask", ("not", ("set", "n"))), ("ask", ("full", "x", "n")), ("ask", ("wished", "n")),
            ("if", ("set", "n"), (), ()), ("hold", "x", "n", "x"), ("weak", "x", "n", "x"), ("wish", "x", "n"),
            ("repeat", 2, (("drop", "n"),)),
        ):
            with self.subTest(statement):
                self.assertIsNone(end_of(MAKE_X, statement))

    def test_a_name_that_a_take_left_standing_for_nothing(self):
        block = (MAKE_X, ("make", "n"), ("take", "n", "x", "f"), ("keep", "n"))
        self.assertEqual(end_of(*block), ("name", 3))

    def test_the_place_in_blocks(self):
        self.assertEqual(end_of(("repeat", 2, (("drop", "x"), ("if", ("set", "x"), (MAKE_X,), (("keep", "x"), MAKE_X))))), ("name", 4))
        self.assertEqual(end_of(("repeat", 0, (MAKE_X, MAKE_X)), ("keep", "x")), ("name", 3))

    def test_a_block_is_not_executed_on(self):
        block = (("repeat", 3, (("repeat", 3, (("say", "a"), ("keep", "n"), ("say", "b"))), ("say", "c"))), ("say", "d"))
        self.assertEqual(run((0, block), ()), ((("said", "a"),), ("name", 3), (), ()))
        self.assertEqual(len(there_at((0, block), ())), 4)

    def test_a_later_round_may_stop(self):
        block = (MAKE_X, ("repeat", 3, (("keep", "x"), ("say", "a"), ("drop", "x"))))
        self.assertEqual(run((0, block), ()), ((("said", "a"),), ("name", 2), (), ()))

    def test_the_collector_acts_ahead_of_the_statement_that_stops(self):
        block = (MAKE_X, ("drop", "x"), ("keep", "n"), ("say", "a"))
        self.assertEqual(run((0, block), (), ((2, 0), (3, 0))), ((), ("name", 2), (), ((2, 0),)))
        self.assertEqual(there_at((0, block), (), ((2, 0),)), (1, 1, 0))
        self.assertEqual(run((0, block), (), ((3, 0),))[3], ())

    def test_the_first_statement(self):
        self.assertEqual(run((0, (("keep", "x"),)), ()), ((), ("name", 0), (), ()))


class LongStops(unittest.TestCase):

    def test_two_hundred_questions(self):
        answers, end, record, _ = run((0, asker(10, 10) + asker(0, 10)), ())
        self.assertIsNone(end)
        self.assertEqual(record, (0,) * 200)
        self.assertEqual(len(answers), 20)

    def test_the_question_behind_them(self):
        block = asker(10, 10) + asker(0, 10)
        for statement in (
            ("ask", ("wished", "w")), ("ask", ("full", "x", "f")), ("take", "y", "x", "f"), ("ask", ("not", ("wished", "w"))),
            ("if", ("full", "x", "f"), (("say", "a"),), (("say", "b"),)), ("if", ("wished", "w"), (("say", "a"),), (("say", "b"),)),
        ):
            with self.subTest(statement):
                answers, end, record, _ = run((0, block + (statement, ("say", "c"))), ())
                # The statements ahead have the places 0 to 11.
                self.assertEqual(end, ("long", 12))
                self.assertEqual(len(record), 200)
                self.assertEqual(answers, (("no",),) * 20)

    def test_what_does_not_ask_does_not_stop(self):
        block = asker(10, 10) + asker(0, 10)
        quiet = (
            ("ask", ("full", "x", "g")), ("take", "y", "x", "g"), ("ask", ("wished", "v")), ("ask", ("same", "x", "x")),
            ("ask", ("set", "y")), ("make", "y"), ("say", "a"),
        )
        answers, end, record, _ = run((0, block + quiet), ())
        self.assertIsNone(end)
        self.assertEqual(len(record), 200)
        self.assertEqual(answers[20:], (("no",), ("no",), ("yes",), ("no",), ("said", "a")))

    def test_in_the_middle_of_a_statement(self):
        # 16 tests ask 12 questions each, the next one asks 8.
        block = asker(12, 12) + asker(0, 12)
        answers, end, record, _ = run((0, block + (("say", "a"),)), ())
        self.assertEqual(end, ("long", 11))
        self.assertEqual(record, (0,) * 200)
        self.assertEqual(answers, (("no",),) * 16)
        self.assertEqual(len(there_at((0, block), ())), 25 + 1 + 13 + 1 + 1 + 1 + 5)

    def test_a_yes_ends_the_test_ahead_of_it(self):
        # With cell 7 cleared each test asks 8 questions.
        start = (("repeat", 8, (("make", "x"), ("wish", "x", "w"))), ("make", "x"), ("wish", "x", "w"), ("weak", "x", "f", "x"))
        block = start + (("repeat", 12, (("ask", ("wished", "w")),)), ("repeat", 12, (("ask", ("wished", "w")),)), ("repeat", 2, (("ask", ("wished", "w")),)))
        answers, end, record, _ = run((0, block), (), ((18, 7),))
        self.assertEqual(answers, (("yes",),) * 25)
        self.assertEqual(record, ((0,) * 7 + (1,)) * 25)
        self.assertEqual(end, ("long", 11))

    def test_name_comes_ahead_of_long(self):
        block = asker(10, 10) + asker(0, 10)
        for statement in (("take", "y", "n", "f"), ("ask", ("full", "n", "f"))):
            self.assertEqual(end_of(*block, statement), ("name", 12))

    def test_a_take_that_stops_does_nothing(self):
        block = asker(10, 10) + asker(0, 10) + (("take", "y", "x", "f"),)
        self.assertEqual(run((0, block), ())[1], ("long", 12))
        self.assertEqual(there_at((0, block), ())[-2:], (10, 10))


if __name__ == "__main__":
    unittest.main()
