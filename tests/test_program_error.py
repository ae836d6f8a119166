"""program_error: what is a program, and what is told of what is not."""

import copy
import unittest

from maybegone.programs import program_error

RESERVED = (
    "as ask cut drop else full given hold if keep make not pass repeat same say set take weak wish wished"
).split()
PROGRAM = (None, "program")
SIGNS = "abcdefghijklmnopqrstuvwxyz0123456789"


def one(statement, givens=0):
    """What program_error tells of a program with this one statement."""
    return program_error((givens, (statement,)))


def nested(depth, item, word="repeat"):
    """The item in so many statements."""
    for _ in range(depth):
        item = ("repeat", 1, (item,)) if word == "repeat" else ("if", ("set", "x"), (), (item,))
    return item


def asked(test, givens=3):
    return one(("ask", test), givens)


class RightPrograms(unittest.TestCase):

    def test_empty_blocks_and_givens(self):
        for givens in range(4):
            self.assertIsNone(program_error((givens, ())))

    def test_each_statement(self):
        statements = (
            ("make", "x"), ("wish", "x", "w"), ("keep", "x"), ("name", "x", "y"), ("drop", "x"),
            ("hold", "x", "f", "y"), ("weak", "x", "f", "y"), ("cut", "x", "f"), ("take", "z", "x", "f"),
            ("say", "w"), ("ask", ("set", "x")), ("if", ("set", "x"), (), ()), ("repeat", 3, ()),
            ("if", ("set", "x"), (("make", "x"),), (("drop", "x"), ("say", "w"))),
            ("repeat", 12, (("make", "x"), ("drop", "x"))),
        )
        for statement in statements:
            with self.subTest(statement):
                self.assertIsNone(one(statement))
        self.assertIsNone(program_error((0, statements)))

    def test_each_test(self):
        for test in (("given", 0), ("given", 2), ("set", "x"), ("same", "x", "y"), ("full", "x", "f"), ("wished", "w")):
            with self.subTest(test):
                self.assertIsNone(asked(test))
                self.assertIsNone(one(("if", test, (), ()), 3))
                self.assertIsNone(asked(("not", test)))

    def test_a_program_with_everything(self):
        value = (2, (
            ("make", "x"), ("make", "y"), ("weak", "x", "f", "y"),
            ("repeat", 2, (("if", ("not", ("full", "x", "f")), (("wish", "x", "w1"),), (("take", "z", "x", "f"),)),)),
            ("ask", ("not", ("not", ("not", ("given", 1))))),
        ))
        held = copy.deepcopy(value)
        self.assertIsNone(program_error(value))
        self.assertIsNone(program_error(value))
        self.assertEqual(value, held)


class NoPrograms(unittest.TestCase):

    def test_values_that_are_no_programs(self):
        for value in (
            None, True, False, 0, 3, -1, 10 ** 59, "", "program", (), [], {}, (0,), (0, (), ()), (0, ()) + (None,),
            [0, ()], {0: ()}, ((), 0), (0, []), (0, {}), (0, None), (0, "ab"), (0, 0), ("0", ()), (None, ()),
            (True, ()), (False, ()), (-1, ()), (4, ()), (10 ** 59, ()), ((0,), ()), ([0], ()), (0, [("make", "x")]),
        ):
            with self.subTest(value):
                self.assertEqual(program_error(value), PROGRAM)

    def test_program_comes_ahead_of_all(self):
        self.assertEqual(program_error((4, (("say", "A"),))), PROGRAM)
        self.assertEqual(program_error((0, [("say", "A")])), PROGRAM)
        self.assertEqual(program_error((True, (("make", "x"),) * 31)), PROGRAM)

    def test_the_result_is_plain(self):
        for value in (None, (0, (3,)), (0, (("make", "x"),) * 31)):
            error = program_error(value)
            self.assertIs(type(error), tuple)
            self.assertEqual(len(error), 2)
            self.assertIs(type(error[1]), str)


class Names(unittest.TestCase):

    def assert_name(self, name, right):
        wanted = None if right else (0, "statement")
        for statement in (
            ("make", name), ("wish", name, "w"), ("keep", name), ("name", name, "y"), ("name", "x", name), ("drop", name),
            ("hold", name, "f", "y"), ("hold", "x", name, "y"), ("hold", "x", "f", name),
            ("weak", name, "f", "y"), ("weak", "x", name, "y"), ("weak", "x", "f", name),
            ("cut", name, "f"), ("cut", "x", name),
            ("take", name, "x", "f"), ("take", "z", name, "f"), ("take", "z", "x", name),
            ("ask", ("set", name)), ("ask", ("same", name, "y")), ("ask", ("same", "x", name)),
            ("ask", ("full", name, "f")), ("ask", ("full", "x", name)), ("ask", ("not", ("set", name))),
            ("if", ("full", name, "f"), (), ()),
        ):
            with self.subTest(statement):
                self.assertEqual(one(statement), wanted)

    def test_lengths(self):
        self.assert_name("a", True)
        self.assert_name("abcdefgh", True)
        self.assert_name("a2345678", True)
        self.assert_name("", False)
        self.assert_name("abcdefghi", False)
        self.assert_name("a23456789", False)

    def test_words_that_are_kept(self):
        self.assertEqual(len(RESERVED), 21)
        for word in RESERVED:
            self.assert_name(word, False)

    def test_names_like_kept_words(self):
        for name in ("name", "is", "yes", "no", "keeps", "ass", "nots", "givens", "wishes", "weak1", "i", "f"):
            self.assert_name(name, True)

    def test_signs(self):
        for sign in SIGNS[:26]:
            self.assertIsNone(one(("make", sign)))
        for sign in SIGNS:
            self.assertIsNone(one(("make", "b" + sign)))
        for code in [10] + list(range(32, 127)):
            sign = chr(code)
            if sign not in SIGNS:
                self.assertEqual(one(("make", sign)), (0, "statement"), sign)
                self.assertEqual(one(("make", "a" + sign)), (0, "statement"), sign)
                self.assertEqual(one(("make", sign + "a")), (0, "statement"), sign)
        for digit in "0123456789":
            self.assertEqual(one(("make", digit)), (0, "statement"))
            self.assertEqual(one(("make", digit + "a")), (0, "statement"))

    def test_no_texts(self):
        for value in (None, True, 0, 3, ("x",), ["x"], {"x": 1}, (), [], b"x"):
            self.assert_name(value, False)


class Words(unittest.TestCase):

    def assert_word(self, word, right):
        wanted = None if right else (0, "statement")
        for statement in (("say", word), ("wish", "x", word), ("ask", ("wished", word)), ("if", ("wished", word), (), ())):
            with self.subTest(statement):
                self.assertEqual(one(statement), wanted)

    def test_right_words(self):
        for word in ("a", "0", "9", "abcdefgh", "12345678", "a1b2c3d4", "1abc"):
            self.assert_word(word, True)
        for word in RESERVED:
            self.assert_word(word, True)

    def test_wrong_words(self):
        for word in ("", "abcdefghi", "123456789", "A", "aB", "a b", " a", "a ", "a\n", "\n", "a-b", "a_b", "a.b", "'"):
            self.assert_word(word, False)

    def test_no_texts(self):
        for value in (None, True, 0, 3, ("a",), ["a"], {"a": 1}, ()):
            self.assert_word(value, False)


class Tests(unittest.TestCase):

    def test_nots(self):
        test = ("set", "x")
        for nots in range(6):
            with self.subTest(nots):
                wanted = None if nots <= 3 else (0, "statement")
                self.assertEqual(asked(test), wanted)
                self.assertEqual(one(("if", test, (), ())), wanted)
            test = ("not", test)

    def test_wrong_nots(self):
        right = ("set", "x")
        for test in (
            ("not",), ("not", right, right), ("not", "x"), ("not", None), ("not", ["set", "x"]), ["not", right],
            ("not", ("not",)), ("not", ("not", right, right)), ("not", ()), ("not", "set", "x"),
            ("not", ("not", ("not", ("not",)))),
        ):
            with self.subTest(test):
                self.assertEqual(asked(test), (0, "statement"))

    def test_given(self):
        for givens in range(4):
            for i in range(-2, 6):
                with self.subTest(givens, i=i):
                    wanted = None if 0 <= i < givens else (0, "statement")
                    self.assertEqual(asked(("given", i), givens), wanted)
                    self.assertEqual(asked(("not", ("given", i)), givens), wanted)

    def test_given_is_an_integer(self):
        for i in (True, False, None, "0", (0,), [0], 10 ** 59, -10 ** 59):
            with self.subTest(i):
                self.assertEqual(asked(("given", i)), (0, "statement"))

    def test_wrong_tests(self):
        for test in (
            None, True, 0, "set", "x", (), [], {}, ["set", "x"], ("set",), ("set", "x", "y"), ("same", "x"),
            ("same", "x", "y", "z"), ("full", "x"), ("full", "x", "f", "g"), ("wished",), ("wished", "w", "w"),
            ("given",), ("given", 0, 0), ("name", "x"), ("is", "x", "y"), ("", "x"), (None, "x"), (["set"], "x"),
            ({}, "x"), (("set",), "x"), ("Set", "x"), {"set": "x"},
        ):
            with self.subTest(test):
                self.assertEqual(asked(test), (0, "statement"))
                self.assertEqual(one(("if", test, (), ()), 3), (0, "statement"))


class Statements(unittest.TestCase):

    def test_items_too_many_and_too_few(self):
        test = ("set", "x")
        for statement in (
            ("make", "x"), ("wish", "x", "w"), ("keep", "x"), ("name", "x", "y"), ("drop", "x"), ("hold", "x", "f", "y"),
            ("weak", "x", "f", "y"), ("cut", "x", "f"), ("take", "z", "x", "f"), ("say", "w"), ("ask", test),
            ("if", test, (), ()), ("repeat", 1, ()),
        ):
            for extra in ("x", (), test, None, 1):
                with self.subTest(statement, extra=extra):
                    self.assertEqual(one(statement + (extra,)), (0, "statement"))
            for length in range(len(statement)):
                with self.subTest(statement[:length]):
                    self.assertEqual(one(statement[:length]), (0, "statement"))
            with self.subTest("list", statement=statement):
                self.assertEqual(one(list(statement)), (0, "statement"))

    def test_values_that_are_no_statements(self):
        for value in (
            None, True, 7, "make", "make x", (), [], {}, {"make": "x"}, ("made", "x"), ("", "x"), (None, "x"), (1, "x"),
            (("make",), "x"), (["make"], "x"), ({}, "x"), ("Make", "x"), ("make ", "x"), ("not", ("set", "x")),
            ("set", "x"), ("given", 0), ("pass",), ("else",), (("make", "x"),),
        ):
            with self.subTest(value):
                self.assertEqual(one(value), (0, "statement"))

    def test_times(self):
        for times in (0, 1, 11, 12):
            self.assertIsNone(one(("repeat", times, ())))
            self.assertIsNone(one(("repeat", times, (("make", "x"),))))
        for times in (-1, 13, 100, 10 ** 59, True, False, None, "3", (3,), [3]):
            self.assertEqual(one(("repeat", times, ())), (0, "statement"))

    def test_blocks_are_tuples(self):
        for block in ([], [("make", "x")], {}, None, 0, True, "", "ab", {"make": "x"}):
            for statement in (("repeat", 1, block), ("if", ("set", "x"), block, ()), ("if", ("set", "x"), (), block)):
                with self.subTest(statement):
                    self.assertEqual(one(statement), (0, "statement"))

    def test_blocks_ahead_of_what_is_in_them(self):
        self.assertEqual(one(("if", ("set", "x"), (("say", "A"),), [])), (0, "statement"))
        self.assertEqual(one(("if", ("set", "x"), (("say", "A"),), ())), (1, "statement"))

    def test_items_of_blocks(self):
        for item in ((), None, "x", 3, [], ["make", "x"]):
            self.assertEqual(one(("repeat", 1, (item,))), (1, "statement"))
            self.assertEqual(one(("if", ("set", "x"), (("make", "x"), item), ())), (2, "statement"))

    def test_a_block_may_look_like_a_statement(self):
        self.assertEqual(one(("repeat", 1, ("make", "x"))), (1, "statement"))
        self.assertEqual(one(("if", ("set", "x"), (), ("make", "x"))), (1, "statement"))


class Places(unittest.TestCase):

    def test_the_first_wrong_one_is_told(self):
        wrong = ("say", "A")
        right = ("make", "x")
        test = ("set", "x")
        self.assertEqual(program_error((0, (right, wrong, wrong))), (1, "statement"))
        self.assertEqual(program_error((0, (("if", test, (right,), (right, wrong)), wrong))), (3, "statement"))
        self.assertEqual(program_error((0, (("if", test, (right, wrong), (wrong,)), wrong))), (2, "statement"))
        self.assertEqual(program_error((0, (("repeat", 0, (("if", test, (), (right,)), right)), wrong))), (4, "statement"))
        self.assertEqual(program_error((0, (right,) * 29 + (wrong,))), (29, "statement"))
        self.assertEqual(program_error((0, (right,) * 40 + (wrong,))), (40, "statement"))

    def test_the_place_is_an_integer(self):
        self.assertIs(type(program_error((0, (("say", "A"),)))[0]), int)


class Nest(unittest.TestCase):

    def test_four_and_five_others(self):
        for word in ("repeat", "if"):
            for depth in range(5):
                self.assertIsNone(one(nested(depth, ("make", "x"), word)))
            for depth in (5, 6, 9):
                self.assertEqual(one(nested(depth, ("make", "x"), word)), (5, "nest"))

    def test_empty_blocks_do_not_count(self):
        self.assertIsNone(one(nested(4, ("repeat", 1, ()))))
        self.assertIsNone(one(nested(4, ("if", ("set", "x"), (), ()))))

    def test_a_wrong_one_in_four_others(self):
        self.assertEqual(one(nested(4, ("say", "A"))), (4, "statement"))

    def test_at_the_same_place_nest(self):
        for wrong in (("say", "A"), None, (), [], ("repeat", 1, [])):
            self.assertEqual(one(nested(5, wrong)), (5, "nest"))

    def test_whichever_comes_first(self):
        wrong = ("say", "A")
        deep = nested(5, ("make", "x"))
        self.assertEqual(program_error((0, (wrong, deep))), (0, "statement"))
        self.assertEqual(program_error((0, (deep, wrong))), (5, "nest"))
        inner = ("repeat", 1, (("make", "x"), wrong))
        self.assertEqual(program_error((0, (nested(4, inner), wrong))), (5, "nest"))
        both = ("repeat", 1, (wrong, ("repeat", 1, (("make", "x"),))))
        self.assertEqual(program_error((0, (nested(3, both),))), (4, "statement"))

    def test_nest_ahead_of_the_bounds(self):
        self.assertEqual(program_error((0, (("make", "x"),) * 31 + (nested(5, ("make", "x")),))), (36, "nest"))

    def test_values_nested_deeply(self):
        self.assertEqual(one(nested(15, ("make", "x"))), (5, "nest"))


class Bounds(unittest.TestCase):

    def wishes(self, many):
        return tuple([("wish", "x", "w" + str(k)) for k in range(many)])

    def heavy(self, weight):
        """Statements with this weight, from 193 on."""
        return (("repeat", 12, (("make", "x"),) * 16),) + (("make", "x"),) * (weight - 193)

    def test_places(self):
        self.assertIsNone(program_error((0, (("make", "x"),) * 30)))
        self.assertEqual(program_error((0, (("make", "x"),) * 31)), (None, "places"))

    def test_inner_places_count(self):
        for times in (0, 1):
            block = (("repeat", times, (("make", "x"),) * 28),)
            self.assertIsNone(program_error((0, block + (("make", "x"),))))
            self.assertEqual(program_error((0, block + (("make", "x"),) * 2)), (None, "places"))
        block = (("if", ("set", "x"), (("make", "x"),) * 14, (("make", "x"),) * 15),)
        self.assertIsNone(program_error((0, block)))
        self.assertEqual(program_error((0, block + (("make", "x"),))), (None, "places"))

    def test_weight(self):
        self.assertIsNone(program_error((0, self.heavy(200))))
        self.assertEqual(program_error((0, self.heavy(201))), (None, "weight"))

    def test_weight_of_ifs_and_repeats(self):
        six = ("if", ("set", "x"), (("make", "x"),) * 2, (("make", "x"),) * 3)
        block = (("repeat", 11, (six, ("repeat", 11, (("make", "x"),)))),)
        # 1 + 11 * (6 + 12) = 199
        self.assertIsNone(program_error((0, block + (("say", "a"),))))
        self.assertEqual(program_error((0, block + (("say", "a"),) * 2)), (None, "weight"))
        self.assertIsNone(program_error((0, (("repeat", 0, (("repeat", 12, (("repeat", 12, (("make", "x"),)),)),)),))))

    def test_wishes(self):
        self.assertIsNone(program_error((0, self.wishes(4))))
        self.assertEqual(program_error((0, self.wishes(5))), (None, "wishes"))
        self.assertIsNone(program_error((0, self.wishes(4) * 2)))
        self.assertIsNone(program_error((0, self.wishes(4) + (("say", "other"), ("ask", ("wished", "others"))))))
        inner = (("repeat", 0, self.wishes(3)), ("if", ("set", "x"), (), self.wishes(4)))
        self.assertIsNone(program_error((0, inner)))
        self.assertEqual(program_error((0, inner + (("wish", "x", "last"),))), (None, "wishes"))

    def test_several_bounds(self):
        many = (("make", "x"),) * 31
        heavy = (("repeat", 12, (("repeat", 12, (("repeat", 12, (("make", "x"),)),)),)),)
        wishes = self.wishes(5)
        self.assertEqual(program_error((0, many + heavy)), (None, "places"))
        self.assertEqual(program_error((0, many + wishes)), (None, "places"))
        self.assertEqual(program_error((0, heavy + wishes)), (None, "weight"))
        self.assertEqual(program_error((0, wishes + heavy)), (None, "weight"))
        self.assertEqual(program_error((0, wishes + heavy + many)), (None, "places"))

    def test_a_wrong_statement_beside_them(self):
        many = (("make", "x"),) * 31
        heavy = (("repeat", 12, (("repeat", 12, (("repeat", 12, (("make", "x"),)),)),)),)
        for block in (many, heavy, self.wishes(5), heavy + self.wishes(5) + many):
            self.assertEqual(program_error((0, block + (None,)))[1], "statement")
            self.assertEqual(program_error((0, (None,) + block)), (0, "statement"))

    def test_long_values(self):
        self.assertEqual(program_error((0, (("make", "x"),) * 1300)), (None, "places"))
        self.assertEqual(program_error((0, (("make", "x"),) * 1300 + ((),))), (1300, "statement"))
        self.assertEqual(program_error((0, (("make", "x" * 3000),))), (0, "statement"))


if __name__ == "__main__":
    unittest.main()
