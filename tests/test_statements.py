"""What each statement and each test does in a run."""

import unittest

from maybegone.runs import run, there_at

ASK_X = ("ask", ("set", "x"))
YES = ("yes",)
NO = ("no",)


def told(*block, inputs=(), plan=()):
    """The answers of the run of a program with this block, which must not be stopped."""
    answers, end, _, _ = run((len(inputs), block), inputs, plan)
    assert end is None, end
    return answers


def truth(test, *block, inputs=(), plan=()):
    """The answer to the test behind the block, also behind one, two and three "not"."""
    answers = []
    for _ in range(4):
        answers.append(told(*block, ("ask", test), inputs=inputs, plan=plan)[-1])
        test = ("not", test)
    if answers == [YES, NO, YES, NO]:
        return True
    assert answers == [NO, YES, NO, YES], answers
    return False


class Names(unittest.TestCase):

    def test_no_name_stands_for_a_cell_in_the_beginning(self):
        self.assertFalse(truth(("set", "x")))

    def test_make(self):
        self.assertTrue(truth(("set", "x"), ("make", "x")))
        self.assertFalse(truth(("set", "y"), ("make", "x")))

    def test_make_anew(self):
        block = (("make", "x"), ("name", "y", "x"), ("make", "x"))
        self.assertFalse(truth(("same", "x", "y"), *block))
        self.assertEqual(there_at((0, block), ()), (1, 1, 2))

    def test_name(self):
        block = (("make", "x"), ("make", "y"), ("name", "x", "y"))
        self.assertTrue(truth(("same", "x", "y"), *block))
        # The first cell is not reached any more, the second one is.
        self.assertEqual(run((0, block + (("say", "a"),)), (), ((3, 0), (3, 1)))[3], ((3, 0),))

    def test_name_for_itself(self):
        self.assertTrue(truth(("set", "x"), ("make", "x"), ("name", "x", "x")))

    def test_a_name_follows_the_cell_not_the_name(self):
        block = (("make", "x"), ("name", "y", "x"), ("make", "x"), ("name", "z", "y"))
        self.assertFalse(truth(("same", "x", "z"), *block))
        self.assertTrue(truth(("same", "y", "z"), *block))

    def test_drop(self):
        self.assertFalse(truth(("set", "x"), ("make", "x"), ("drop", "x")))
        self.assertTrue(truth(("set", "y"), ("make", "x"), ("name", "y", "x"), ("drop", "x")))

    def test_drop_of_nothing(self):
        self.assertFalse(truth(("set", "x"), ("drop", "x"), ("drop", "x")))


class Fields(unittest.TestCase):

    def test_hold_and_weak_fill(self):
        for word in ("hold", "weak"):
            block = (("make", "x"), ("make", "y"), (word, "x", "f", "y"))
            self.assertTrue(truth(("full", "x", "f"), *block))
            self.assertFalse(truth(("full", "x", "g"), *block))
            self.assertFalse(truth(("full", "y", "f"), *block))

    def test_cut(self):
        for word in ("hold", "weak"):
            block = (("make", "x"), (word, "x", "f", "x"), (word, "x", "g", "x"), ("cut", "x", "f"))
            self.assertFalse(truth(("full", "x", "f"), *block))
            self.assertTrue(truth(("full", "x", "g"), *block))

    def test_cut_of_a_field_that_is_not_filled(self):
        self.assertFalse(truth(("full", "x", "f"), ("make", "x"), ("cut", "x", "f"), ("cut", "x", "f")))

    def test_a_field_is_of_the_cell_not_of_the_name(self):
        block = (("make", "x"), ("hold", "x", "f", "x"), ("name", "y", "x"), ("make", "x"))
        self.assertTrue(truth(("full", "y", "f"), *block))
        self.assertFalse(truth(("full", "x", "f"), *block))

    def test_filled_anew(self):
        block = (("make", "x"), ("make", "y"), ("make", "z"), ("hold", "x", "f", "y"), ("weak", "x", "f", "z"), ("take", "t", "x", "f"))
        self.assertTrue(truth(("same", "t", "z"), *block))
        self.assertFalse(truth(("same", "t", "y"), *block))

    def test_filled_anew_is_strong_or_weak_as_the_last_one_says(self):
        start = (("make", "x"), ("make", "y"))
        for first, last, cleared in (("hold", "weak", ((5, 1),)), ("weak", "hold", ()), ("weak", "weak", ((5, 1),)), ("hold", "hold", ())):
            block = start + ((first, "x", "f", "y"), (last, "x", "f", "y"), ("drop", "y"), ("say", "a"))
            self.assertEqual(run((0, block), (), ((5, 1),))[3], cleared)

    def test_cut_lets_go(self):
        block = (("make", "x"), ("make", "y"), ("hold", "x", "f", "y"), ("drop", "y"), ("cut", "x", "f"), ("say", "a"))
        self.assertEqual(run((0, block), (), ((4, 1), (5, 1)))[3], ((5, 1),))


class Take(unittest.TestCase):

    def test_take(self):
        for word in ("hold", "weak"):
            block = (("make", "x"), ("make", "y"), (word, "x", "f", "y"), ("drop", "y"), ("take", "z", "x", "f"))
            self.assertTrue(truth(("set", "z"), *block))
            self.assertFalse(truth(("same", "z", "x"), *block))
        self.assertTrue(truth(("same", "y", "z"), ("make", "x"), ("make", "y"), ("weak", "x", "f", "y"), ("take", "z", "x", "f")))

    def test_not_filled(self):
        self.assertFalse(truth(("set", "z"), ("make", "x"), ("make", "z"), ("take", "z", "x", "f")))

    def test_cut(self):
        self.assertFalse(truth(("set", "z"), ("make", "x"), ("weak", "x", "f", "x"), ("cut", "x", "f"), ("take", "z", "x", "f")))

    def test_cleared(self):
        block = (("make", "x"), ("make", "y"), ("weak", "x", "f", "y"), ("name", "z", "x"), ("drop", "y"), ("take", "z", "x", "f"))
        self.assertFalse(truth(("set", "z"), *block, plan=((5, 1),)))
        self.assertTrue(truth(("set", "z"), *block))

    def test_a_cell_that_is_taken_is_reached(self):
        block = (("make", "x"), ("make", "y"), ("weak", "x", "f", "y"), ("drop", "y"), ("take", "z", "x", "f"), ("say", "a"))
        self.assertEqual(run((0, block), (), ((5, 1),))[3], ())
        self.assertEqual(run((0, block), (), ((4, 1),))[3], ((4, 1),))

    def test_into_the_name_that_is_read(self):
        block = (("make", "x"), ("make", "y"), ("hold", "x", "f", "y"), ("take", "x", "x", "f"))
        self.assertTrue(truth(("same", "x", "y"), *block))


class Answers(unittest.TestCase):

    def test_say(self):
        self.assertEqual(told(("say", "a"), ("say", "not"), ("say", "12"), ("say", "a")), (("said", "a"), ("said", "not"), ("said", "12"), ("said", "a")))

    def test_ask(self):
        self.assertEqual(told(ASK_X, ("make", "x"), ASK_X), (NO, YES))

    def test_in_order(self):
        self.assertEqual(told(("say", "yes"), ASK_X, ("say", "no")), (("said", "yes"), NO, ("said", "no")))

    def test_nothing(self):
        self.assertEqual(run((0, ()), ()), ((), None, (), ()))
        self.assertEqual(there_at((0, ()), ()), ())


class Given(unittest.TestCase):

    def test_each_item(self):
        for a in (0, 1):
            for b in (0, 1):
                for c in (0, 1):
                    for i in range(3):
                        self.assertEqual(truth(("given", i), inputs=(a, b, c)), (a, b, c)[i] == 1)


class Same(unittest.TestCase):

    def test_same(self):
        self.assertTrue(truth(("same", "x", "x"), ("make", "x")))
        self.assertTrue(truth(("same", "x", "y"), ("make", "x"), ("name", "y", "x")))
        self.assertFalse(truth(("same", "x", "y"), ("make", "x"), ("make", "y")))


class Full(unittest.TestCase):

    def test_cleared(self):
        block = (("make", "x"), ("make", "y"), ("weak", "x", "f", "y"), ("drop", "y"))
        self.assertTrue(truth(("full", "x", "f"), *block))
        self.assertFalse(truth(("full", "x", "f"), *block, plan=((4, 1),)))

    def test_it_holds_the_cleared_cell_still(self):
        # Filled with a cell that is cleared, not empty: each test asks a question.
        block = (("make", "x"), ("make", "y"), ("weak", "x", "f", "y"), ("drop", "y"), ("ask", ("full", "x", "f")), ("ask", ("full", "x", "f")))
        self.assertEqual(run((0, block), (), ((4, 1),)), ((NO, NO), None, (1, 1), ((4, 1),)))

    def test_filled_anew_with_a_cell_that_is_there(self):
        block = (("make", "x"), ("make", "y"), ("weak", "x", "f", "y"), ("drop", "y"), ("say", "a"), ("weak", "x", "f", "x"))
        self.assertTrue(truth(("full", "x", "f"), *block, plan=((4, 1),)))


class Wished(unittest.TestCase):

    def test_wished(self):
        block = (("make", "x"), ("wish", "x", "w"), ("drop", "x"))
        self.assertFalse(truth(("wished", "w"), *block))
        self.assertTrue(truth(("wished", "w"), *block, plan=((3, 0),)))
        self.assertFalse(truth(("wished", "v"), *block, plan=((3, 0),)))

    def test_nobody_has_the_wish(self):
        self.assertFalse(truth(("wished", "w")))
        self.assertFalse(truth(("wished", "w"), ("make", "x"), ("drop", "x"), plan=((2, 0),)))

    def test_one_of_several(self):
        block = (("make", "x"), ("wish", "x", "w"), ("make", "x"), ("wish", "x", "w"), ("drop", "x"))
        for plan, wanted in (((), False), (((5, 0),), True), (((5, 1),), True), (((5, 0), (5, 1)), True)):
            self.assertEqual(truth(("wished", "w"), *block, plan=plan), wanted)

    def test_a_later_wish_is_in_the_place_of_an_earlier_one(self):
        block = (("make", "x"), ("wish", "x", "w"), ("wish", "x", "v"), ("drop", "x"))
        self.assertFalse(truth(("wished", "w"), *block, plan=((4, 0),)))
        self.assertTrue(truth(("wished", "v"), *block, plan=((4, 0),)))

    def test_a_wish_is_of_the_cell(self):
        block = (("make", "x"), ("name", "y", "x"), ("wish", "y", "w"), ("drop", "y"), ("drop", "x"))
        self.assertTrue(truth(("wished", "w"), *block, plan=((5, 0),)))

    def test_a_wish_does_not_reach(self):
        self.assertEqual(run((0, (("make", "x"), ("wish", "x", "w"), ("drop", "x"), ("say", "a"))), (), ((3, 0),))[3], ((3, 0),))


class Blocks(unittest.TestCase):

    def test_if(self):
        statement = ("if", ("given", 0), (("say", "a"), ("say", "b")), (("say", "c"),))
        self.assertEqual(told(statement, ("say", "d"), inputs=(1,)), (("said", "a"), ("said", "b"), ("said", "d")))
        self.assertEqual(told(statement, ("say", "d"), inputs=(0,)), (("said", "c"), ("said", "d")))

    def test_if_with_empty_blocks(self):
        self.assertEqual(told(("if", ("given", 0), (), (("say", "c"),)), ("say", "d"), inputs=(1,)), (("said", "d"),))
        self.assertEqual(told(("if", ("given", 0), (("say", "c"),), ()), ("say", "d"), inputs=(0,)), (("said", "d"),))

    def test_an_if_asks_its_test_once(self):
        block = (("make", "x"), ("weak", "x", "f", "x"), ("if", ("full", "x", "f"), (("cut", "x", "f"), ("say", "a")), (("say", "b"),)))
        self.assertEqual(run((0, block), ()), ((("said", "a"),), None, (0,), ()))

    def test_repeat(self):
        for times in (0, 1, 2, 12):
            self.assertEqual(told(("repeat", times, (("say", "a"), ("say", "b"))), ("say", "c")), (("said", "a"), ("said", "b")) * times + (("said", "c"),))

    def test_blocks_in_blocks(self):
        inner = ("if", ("set", "x"), (("drop", "x"), ("say", "b")), (("make", "x"), ("repeat", 2, (("say", "a"),))))
        block = (("repeat", 3, (inner, ("say", "c"))), ("say", "d"))
        words = "a a c b c a a c d".split()
        self.assertEqual(told(*block), tuple([("said", word) for word in words]))
        self.assertEqual(len(there_at((0, block), ())), 1 + 6 + 4 + 6 + 1)


if __name__ == "__main__":
    unittest.main()
