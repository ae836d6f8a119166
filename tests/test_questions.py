"""Which questions are asked, and the record."""

import unittest

from maybegone.runs import run

FULL = ("ask", ("full", "x", "f"))


def record_of(*block, plan=()):
    answers, end, record, cleared = run((0, block), (), plan)
    assert end is None, end
    return record


class TakeAndFull(unittest.TestCase):

    def test_one_question(self):
        for word in ("weak", "hold"):
            for asking in (FULL, ("take", "z", "x", "f"), ("ask", ("not", ("full", "x", "f"))), ("if", ("full", "x", "f"), (), ())):
                with self.subTest(word, asking=asking):
                    block = (("make", "x"), ("make", "y"), (word, "x", "f", "y"))
                    # The cell is reached, and asked about all the same.
                    self.assertEqual(record_of(*block, asking), (0,))
                    self.assertEqual(record_of(*block, ("drop", "y"), asking), (0,))

    def test_yes(self):
        block = (("make", "x"), ("make", "y"), ("weak", "x", "f", "y"), ("drop", "y"))
        for asking in (FULL, ("take", "z", "x", "f"), ("ask", ("not", ("full", "x", "f"))), ("if", ("full", "x", "f"), (), ())):
            self.assertEqual(record_of(*block, asking, plan=((4, 1),)), (1,))
            self.assertEqual(record_of(*block, asking, asking, plan=((5, 1),)), (0, 0) if asking[0] == "take" else (0, 1))

    def test_not_filled(self):
        for block in ((("make", "x"),), (("make", "x"), ("weak", "x", "f", "x"), ("cut", "x", "f")), (("make", "x"), ("weak", "x", "g", "x"))):
            for asking in (FULL, ("take", "z", "x", "f")):
                self.assertEqual(record_of(*block, asking), ())

    def test_the_cell_itself(self):
        self.assertEqual(record_of(("make", "x"), ("hold", "x", "f", "x"), FULL), (0,))


class Wished(unittest.TestCase):

    BLOCK = (
        ("make", "x"), ("wish", "x", "w"), ("make", "y"), ("wish", "y", "w"), ("make", "z"), ("wish", "z", "w"),
        ("make", "t"), ("wish", "t", "v"), ("drop", "x"), ("drop", "y"), ("drop", "z"),
    )
    ASK = ("ask", ("wished", "w"))

    def test_each_cell_with_the_wish(self):
        self.assertEqual(record_of(*self.BLOCK, self.ASK), (0, 0, 0))
        self.assertEqual(record_of(*self.BLOCK, ("ask", ("wished", "v"))), (0,))
        self.assertEqual(record_of(*self.BLOCK, ("ask", ("wished", "u"))), ())

    def test_up_to_the_first_yes(self):
        for cell, wanted in ((0, (1,)), (1, (0, 1)), (2, (0, 0, 1)), (3, (0, 0, 0))):
            self.assertEqual(record_of(*self.BLOCK, self.ASK, plan=((11, cell),)), wanted)
        self.assertEqual(record_of(*self.BLOCK, self.ASK, plan=((11, 1), (11, 2))), (0, 1))

    def test_a_cleared_cell_keeps_its_wish(self):
        self.assertEqual(record_of(*self.BLOCK, self.ASK, self.ASK, ("make", "x"), self.ASK, plan=((11, 1),)), (0, 1) * 3)

    def test_ascending_though_wished_in_another_order(self):
        block = (("make", "x"), ("make", "y"), ("wish", "y", "w"), ("wish", "x", "w"), ("drop", "y"))
        self.assertEqual(record_of(*block, self.ASK, plan=((5, 1),)), (0, 1))
        block = block[:4] + (("drop", "x"),)
        self.assertEqual(record_of(*block, self.ASK, plan=((5, 0),)), (1,))

    def test_a_wish_that_came_anew(self):
        block = (("make", "x"), ("wish", "x", "w"), ("make", "y"), ("wish", "y", "w"), ("wish", "x", "v"), ("wish", "x", "w"), ("drop", "x"))
        self.assertEqual(record_of(*block, self.ASK, plan=((7, 0),)), (1,))
        self.assertEqual(record_of(*block[:5], self.ASK), (0,))

    def test_reached_cells_are_asked_about(self):
        self.assertEqual(record_of(("make", "x"), ("keep", "x"), ("wish", "x", "w"), self.ASK), (0,))


class NothingElse(unittest.TestCase):

    def test_statements_and_tests_that_do_not_ask(self):
        block = (
            ("make", "x"), ("make", "y"), ("wish", "x", "w"), ("keep", "x"), ("name", "z", "x"), ("hold", "x", "f", "y"),
            ("weak", "y", "f", "x"), ("cut", "x", "f"), ("say", "a"), ("ask", ("set", "x")), ("ask", ("same", "x", "y")),
            ("if", ("set", "y"), (("drop", "y"),), ()), ("repeat", 2, (("drop", "z"),)),
        )
        self.assertEqual(record_of(*block), ())

    def test_items_of_the_record(self):
        block = Wished.BLOCK + (Wished.ASK, Wished.ASK)
        record = record_of(*block, plan=((12, 0),))
        self.assertEqual(record, (0, 0, 0, 1))
        self.assertEqual([type(item) for item in record], [int] * 4)


if __name__ == "__main__":
    unittest.main()
