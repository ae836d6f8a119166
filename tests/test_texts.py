"""program_text and parse_program."""

import copy
import random
import re
import unittest

from altering import ODD, nested
from maybegone.errors import BadProgram, BadText, GoneError
from maybegone.fixes import Keeps, Strongs
from maybegone.programs import each_statement, program_error
from maybegone.texts import parse_program, program_text
from reference import random_program

NAME = r"(?!(?:as|ask|cut|drop|else|full|given|hold|if|keep|make|not|pass|repeat|same|say|set|take|weak|wish|wished)(?![a-z0-9]))[a-z][a-z0-9]{0,7}"
WORD = r"[a-z0-9]{1,8}"
NUMBER = r"(?:0|-?[1-9][0-9]{0,19})"
FIELD = rf"{NAME}\.{NAME}"
TEST = rf"(?:not ){{0,20}}(?:given {NUMBER}|set {NAME}|{NAME} is {NAME}|full {FIELD}|wished {WORD})"
LINES = {
    "make": rf"make ({NAME})", "keep": rf"keep ({NAME})", "drop": rf"drop ({NAME})", "wish": rf"wish ({NAME}) ({WORD})", "say": rf"say ({WORD})",
    "name": rf"({NAME}) = ({NAME})", "take": rf"({NAME}) = ({NAME})\.({NAME})", "hold": rf"({NAME})\.({NAME}) = ({NAME})",
    "weak": rf"({NAME})\.({NAME}) ~ ({NAME})", "cut": rf"cut ({NAME})\.({NAME})", "ask": rf"ask ({TEST})", "if": rf"if ({TEST})", "repeat": rf"repeat ({NUMBER})",
}


class Wrong(Exception):
    pass


def slow_test(text):
    words = text.split(" ")
    if words[0] == "not":
        return ("not", slow_test(text[4:]))
    if words[1:2] == ["is"] and len(words) == 3:
        return ("same", words[0], words[2])
    if words[0] == "given":
        return ("given", int(words[1]))
    return (words[0],) + tuple(words[1].split("."))


class SlowParser:
    """Reads whole texts only; it does not know which line is wrong."""

    def __init__(self, lines):
        self.lines = lines
        self.at = 0

    def program(self):
        found = re.fullmatch(f"givens ({NUMBER})", self.lines[0])
        if not found:
            raise Wrong()
        self.at = 1
        block = self.block(0)
        if self.at < len(self.lines):
            raise Wrong()
        return (int(found[1]), block)

    def next_is(self, line):
        if self.at < len(self.lines) and self.lines[self.at] == line:
            self.at += 1
            return True
        return False

    def block(self, depth):
        rows = []
        while self.at < len(self.lines) and re.match("  " * depth + "(?! )", self.lines[self.at]):
            line = self.lines[self.at][2 * depth:]
            if line == "else":
                break
            self.at += 1
            rows.append(self.statement(line, depth))
        return tuple(rows)

    def full_block(self, depth):
        found = self.block(depth)
        if not found:
            raise Wrong()
        return found

    def statement(self, line, depth):
        for kind, pattern in LINES.items():
            found = re.fullmatch(pattern, line)
            if found:
                if kind in ("ask", "if"):
                    head = (kind, slow_test(found[1]))
                else:
                    head = (kind,) + ((int(found[1]),) if kind == "repeat" else found.groups())
                if kind not in ("if", "repeat"):
                    return head
                inner = () if self.next_is("  " * (depth + 1) + "pass") else self.full_block(depth + 1)
                if kind == "repeat":
                    return head + (inner,)
                return head + (inner, self.full_block(depth + 1) if self.next_is("  " * depth + "else") else ())
        raise Wrong()


def slow_read(lines):
    """The program whose text the lines are, within bounds or not, or None."""
    try:
        return SlowParser(lines).program()
    except Wrong:
        return None


def begins_a_text(lines):
    """Whether some text begins with these lines: they are one, or one more line makes them one."""
    return any(slow_read(lines + more) is not None for more in [[]] + [["  " * depth + "make x"] for depth in range(len(lines) + 1)])


def slow_parse(text):
    """The program, or the error as a tuple of the name of its class and its field."""
    if type(text) is not str:
        return ("BadText", None)
    lines = text.split("\n")
    for number in range(len(lines)):
        if not begins_a_text(lines[:number + 1]):
            return ("BadText", number)
    program = slow_read(lines)
    if program is None:
        return ("BadText", len(lines))
    error = program_error(program)
    return program if error is None else ("BadProgram", error)


def parsed(text):
    """What parse_program returns, or its error as slow_parse tells it."""
    try:
        return parse_program(text)
    except BadText as error:
        assert isinstance(error, GoneError)
        return ("BadText", error.line)
    except BadProgram as error:
        assert isinstance(error, GoneError)
        return ("BadProgram", error.error)


# A statement of each kind, with its line.
PLAIN = (
    (("make", "x"), "make x"), (("keep", "x"), "keep x"), (("drop", "x"), "drop x"), (("wish", "x", "w"), "wish x w"), (("say", "ok"), "say ok"),
    (("name", "x", "y"), "x = y"), (("take", "z", "x", "f"), "z = x.f"), (("hold", "x", "f", "y"), "x.f = y"), (("weak", "x", "f", "y"), "x.f ~ y"),
    (("cut", "x", "f"), "cut x.f"), (("ask", ("given", 0)), "ask given 0"), (("ask", ("set", "x")), "ask set x"), (("ask", ("same", "x", "y")), "ask x is y"),
    (("ask", ("full", "x", "f")), "ask full x.f"), (("ask", ("wished", "w")), "ask wished w"), (("ask", ("not", ("set", "x"))), "ask not set x"),
    (("ask", ("not", ("not", ("not", ("same", "x", "x"))))), "ask not not not x is x"), (("say", "not"), "say not"), (("wish", "is", "pass"), "wish is pass"),
    (("name", "is", "givens"), "is = givens"), (("ask", ("same", "is", "is")), "ask is is is"), (("ask", ("wished", "not")), "ask wished not"),
    (("ask", ("wished", "0")), "ask wished 0"), (("say", "12345678"), "say 12345678"), (("make", "a2345678"), "make a2345678"),
    (("hold", "is", "is", "is"), "is.is = is"), (("ask", ("set", "is")), "ask set is"),
)


class Texts(unittest.TestCase):

    def both(self, program, text):
        self.assertIsNone(program_error(program))
        self.assertEqual(program_text(program), text)
        self.assertEqual(parse_program(text), program)
        self.assertEqual(slow_parse(text), program)

    def test_no_statements(self):
        for givens in range(4):
            self.both((givens, ()), f"givens {givens}")

    def test_each_kind(self):
        for row, line in PLAIN:
            self.both((1, (row,)), "givens 1\n" + line)
            self.both((3, (("repeat", 12, (row, row)),)), f"givens 3\nrepeat 12\n  {line}\n  {line}")

    def test_empty_blocks(self):
        test = ("set", "x")
        say = ("say", "a")
        self.both((0, (("repeat", 0, ()),)), "givens 0\nrepeat 0\n  pass")
        self.both((0, (("if", test, (), ()),)), "givens 0\nif set x\n  pass")
        self.both((0, (("if", test, (say,), ()),)), "givens 0\nif set x\n  say a")
        self.both((0, (("if", test, (), (say,)),)), "givens 0\nif set x\n  pass\nelse\n  say a")
        self.both((0, (("if", test, (say,), (say, say)), say)), "givens 0\nif set x\n  say a\nelse\n  say a\n  say a\nsay a")
        self.both((0, (("if", test, (("if", test, (), ()),), ()),)), "givens 0\nif set x\n  if set x\n    pass")
        self.both((0, (("if", test, (("if", test, (), ()),), (("repeat", 1, ()),)),)), "givens 0\nif set x\n  if set x\n    pass\nelse\n  repeat 1\n    pass")
        self.both((0, (("if", test, (("if", test, (), (say,)),), ()),)), "givens 0\nif set x\n  if set x\n    pass\n  else\n    say a")
        self.both((0, (("repeat", 2, ()), ("repeat", 2, ()), say)), "givens 0\nrepeat 2\n  pass\nrepeat 2\n  pass\nsay a")

    def test_five_levels(self):
        block, lines = (("make", "x"),), ["        make x"]
        for depth in (3, 2, 1, 0):
            block = (("if", ("set", "x"), block, (("say", "a"),)), ("say", "b"))
            space = "  " * depth
            lines = [space + "if set x"] + lines + [space + "else", space + "  say a", space + "say b"]
        self.both((0, block), "\n".join(["givens 0"] + lines))
        # All ends of blocks at the same line.
        block, lines = (("repeat", 1, ()),), ["        repeat 1", "          pass"]
        for depth in (3, 2, 1, 0):
            block = (("repeat", depth, block),)
            lines = ["  " * depth + f"repeat {depth}"] + lines
        self.both((0, block + (("say", "a"),)), "\n".join(["givens 0"] + lines + ["say a"]))

    def test_thirty_statements(self):
        rows = tuple(row for row, _ in PLAIN) + (("repeat", 3, ()),) * 3
        self.assertEqual(len(rows), 30)
        self.both((1, rows[:1] * 30), "givens 1" + "\nmake x" * 30)
        text = "givens 1\n" + "\n".join([line for _, line in PLAIN] + ["repeat 3\n  pass"] * 3)
        program = (1, tuple(row for row in rows))
        self.assertEqual(program_text(program), text)
        self.assertEqual(parsed(text), program if program_error(program) is None else ("BadProgram", program_error(program)))

    def test_long_texts(self):
        long = ("ask", ("not", ("not", ("not", ("full", "abcdefgh", "abcdefgh")))))
        inner = (long,) * 25
        program = (3, (("if", long[1], (("if", long[1], (("if", long[1], (("if", long[1], inner, (long,)),), ()),), ()),), ()),))
        self.assertIsNone(program_error(program))
        text = program_text(program)
        self.assertGreater(len(text), 1000)
        self.assertEqual(parse_program(text), program)

    def test_there_and_back(self):
        source = random.Random(121)
        within = 0
        for _ in range(400):
            program = random_program(source)
            held = copy.deepcopy(program)
            text = program_text(program)
            self.assertIs(type(text), str)
            self.assertEqual(text, program_text(program))
            self.assertEqual(program, held)
            self.assertEqual(slow_read(text.split("\n")), program)
            error = program_error(program)
            self.assertEqual(parsed(text), program if error is None else ("BadProgram", error))
            self.assertEqual(text.count("\n"), len(list(each_statement(program))) + text.count("  pass\n") + text.endswith("  pass") + len(re.findall(r"\n *else\n", text)))
            within += error is None
        self.assertGreater(within, 150)

    def test_programs_that_fixes_have_changed(self):
        program = (0, (("repeat", 12, (("make", "x"), ("weak", "x", "f", "x")) * 8), ("say", "a")))
        changed = Strongs().applied(Keeps().applied(program, (1, 3, 5)), (3, 6))
        self.assertEqual(program_text(changed), program_text(program).replace("make x\n  x.f ~ x\n", "make x\n  keep x\n  x.f = x\n", 2).replace(
            "x.f = x\n  make x\n  x.f ~ x\n", "x.f = x\n  make x\n  keep x\n  x.f ~ x\n", 1))
        changed = Keeps().applied(program, (1, 3))
        self.assertEqual(parsed(program_text(changed)), ("BadProgram", (None, "weight")))


class WrongLines(unittest.TestCase):

    def check(self, text, expected):
        self.assertEqual(parsed(text), expected, text)
        self.assertEqual(slow_parse(text), expected, text)

    def wrong(self, text, line):
        self.check(text, ("BadText", line))

    def test_what_is_no_text(self):
        for value in ODD + tuple(nested(20)) + ((0, ()), ["givens 0"], ("givens 0",)):
            if type(value) is not str:
                self.check(value, ("BadText", None))

    def test_first_lines(self):
        for text in ("", "\n", "givens", "givens ", " givens 0", "  givens 0", "givens  0", "givens 0 ", "givens 00", "givens -0", "givens 01", "givens x", "Givens 0",
                     "givens 0 0", "make x", "pass", "given 0", "givens +1", "givens 1.0", "givens 1_0", "givens " + "1" * 21, "givens -" + "1" * 21, "\ngivens 0",
                     "givens --1", "givens -", "sure", "x" * 3000, "givens 0\r"):
            self.wrong(text, 0)
            self.wrong(text + "\nmake x", 0)

    def test_numbers_of_givens_that_are_too_great(self):
        for number in ("4", "-1", "-3", "1" * 20, "9" * 20, "-" + "9" * 20):
            self.check("givens " + number, ("BadProgram", (None, "program")))
            self.check(f"givens {number}\nmake x", ("BadProgram", (None, "program")))
            self.wrong(f"givens {number}\nmake", 1)

    def test_line_feeds_at_the_end(self):
        self.wrong("givens 0\n", 1)
        self.wrong("givens 0\nmake x\n", 2)
        self.wrong("givens 0\nmake x\n\n", 2)
        self.wrong("givens 0\n\nmake x", 1)
        self.wrong("givens 0\nrepeat 2\n", 2)
        self.wrong("givens 0\nrepeat 2\n  pass\n", 3)
        self.wrong("givens 0\nmake x\n  ", 2)

    def test_words_too_many_or_too_few(self):
        for _, line in PLAIN:
            words = line.split(" ")
            for at in range(len(words)):
                self.same("givens 1\nmake x\n" + " ".join(words[:at] + words[at + 1:]))
                self.same("givens 1\nmake x\n" + " ".join(words[:at] + ["x"] + words[at:]))
                self.same("givens 1\nmake x\n" + " ".join(words[:at] + ["not"] + words[at:]))
            self.wrong("givens 1\nmake x\n" + line + " x", 2)
            self.wrong("givens 1\nmake x\n" + line + " 1", 2)

    def same(self, text):
        """Checks that both ways to read the text agree."""
        found = parsed(text)
        self.assertEqual(found, slow_parse(text), text)
        return found

    def test_spaces(self):
        for _, line in PLAIN + ((0, "repeat 2"), (0, "if set x")):
            places = [at for at, sign in enumerate(line) if sign == " "]
            for other in [line[:at] + " " + line[at:] for at in places] + [" " + line, line + " ", "  " + line, "   " + line, line + "  "]:
                self.wrong("givens 1\nmake x\n" + other, 2)
            for other in (line.replace("=", " = "), line.replace(".", " ."), line.replace(".", ". "), line.replace(" ~ ", "~"), line.replace(" = ", "=")):
                if other != line:
                    self.wrong("givens 1\nmake x\n" + other, 2)
        for line in ("x.f ~x", "x.f~ x", "x =y", "x= y", "x. f = y", "ask full x .f"):
            self.wrong("givens 0\n" + line, 1)

    def test_names_and_words(self):
        kept = "as ask cut drop else full given hold if keep make not pass repeat same say set take weak wish wished".split()
        shapes = ("make {}", "keep {}", "drop {}", "wish {} w", "{} = x", "x = {}", "{} = x.f", "x = {}.f", "x = x.{}", "{}.f = x", "x.{} = x", "x.f = {}", "{}.f ~ x",
                  "x.{} ~ x", "x.f ~ {}", "cut {}.f", "cut x.{}", "ask set {}", "ask {} is x", "ask x is {}", "ask full {}.f", "ask full x.{}", "if set {}", "if x is {}")
        wrong = kept + ["X", "1x", "a23456789", "", "x_y", "x-y", "x.y.z", "-1", "x:", "'x'", "a2345678x"]
        for shape in shapes:
            for word in wrong:
                self.wrong("givens 0\nmake x\n" + shape.format(word), 2)
            for word in ("x", "x1", "a2345678", "is", "givens", "a", "makes", "no", "wishes"):
                found = self.same("givens 0\nmake x\n" + shape.format(word))
                # Behind the line of an if the block is missing.
                self.assertEqual(found[:2] if shape.startswith("if") else found[0], ("BadText", 3) if shape.startswith("if") else 0)
        for shape in ("say {}", "wish x {}", "ask wished {}", "if not wished {}"):
            for word in ("X", "a23456789", "", "x_y", "x.f", "-1", "'x'", "123456789", "x y"):
                self.wrong("givens 0\nmake x\n" + shape.format(word), 2)
            for word in kept + ["0", "00", "12345678", "1x"]:
                self.assertNotEqual(self.same("givens 0\nmake x\n" + shape.format(word)), ("BadText", 2))

    def test_integers(self):
        for shape, error in (("repeat {}\n  pass", (1, "statement")), ("ask given {}", (1, "statement")), ("if not given {}\n  pass", (1, "statement"))):
            for number in ("00", "01", "-0", "-01", "+1", "-", "--1", "1" * 21, "-" + "1" * 21, "0" * 20, "x", "1x", "1.0", "1_0", "", " 1", "0x1"):
                self.wrong("givens 3\nmake x\n" + shape.format(number), 2)
            for number in ("-1", "13", "20", "1" * 20, "9" * 20, "-" + "9" * 20, "-12"):
                self.check("givens 3\nmake x\n" + shape.format(number), ("BadProgram", error))
            for number in ("0", "1", "2"):
                self.assertEqual(self.same("givens 3\nmake x\n" + shape.format(number))[0], 3)

    def test_nots(self):
        for line, more in (("ask", ""), ("if", "\n  pass")):
            for test in ("set x", "x is x", "full x.f", "wished w", "given 0"):
                for many in range(0, 24):
                    text = "givens 1\nmake x\n" + line + " " + "not " * many + test + more
                    if many > 20:
                        self.wrong(text, 2)
                    elif many > 3:
                        self.check(text, ("BadProgram", (1, "statement")))
                    else:
                        self.assertEqual(self.same(text)[0], 1)
        for line in ("ask", "ask not", "ask not not", "ask not set", "if", "if not", "ask make x", "ask set x not", "ask not x", "ask x", "ask is", "ask x is", "ask is x",
                     "ask same x x", "ask x same x", "ask x is not x", "ask not" + " not" * 20):
            self.wrong("givens 0\n" + line, 1)

    def test_lines_too_deep_or_not_deep_enough(self):
        self.wrong("givens 0\n  make x", 1)
        self.wrong("givens 0\nmake x\n  make x", 2)
        self.wrong("givens 0\nrepeat 2\nmake x", 2)
        self.wrong("givens 0\nrepeat 2\n    make x", 2)
        self.wrong("givens 0\nrepeat 2\n   make x", 2)
        self.wrong("givens 0\nrepeat 2\n make x", 2)
        self.wrong("givens 0\nrepeat 2\n  make x\n    make x", 3)
        self.wrong("givens 0\nrepeat 2\n  make x\n make x", 3)
        self.wrong("givens 0\nrepeat 2\n  repeat 2\n  make x", 3)
        self.wrong("givens 0\nrepeat 2\n  repeat 2\nmake x", 3)
        self.wrong("givens 0\nrepeat 2\n  repeat 2\n    make x\nmake x\n  make x", 5)
        self.wrong("givens 0\nif set x\n  make x\nelse\nmake x", 4)
        self.wrong("givens 0\nif set x\n  make x\nelse\n    make x", 4)

    def test_pass_where_it_cannot_stand(self):
        self.wrong("givens 0\npass", 1)
        self.wrong("givens 0\n  pass", 1)
        self.wrong("givens 0\nmake x\npass", 2)
        self.wrong("givens 0\nrepeat 2\npass", 2)
        self.wrong("givens 0\nrepeat 2\n    pass", 2)
        self.wrong("givens 0\nrepeat 2\n  make x\n  pass", 3)
        self.wrong("givens 0\nif set x\n  pass\nelse\n  pass", 4)
        self.wrong("givens 0\nif set x\n  make x\nelse\n  pass", 4)
        self.wrong("givens 0\nif set x\n  make x\nelse\n  make x\n  pass", 5)
        self.wrong("givens 0\nrepeat 2\n  pass x", 2)
        self.wrong("givens 0\nrepeat 2\n  pass ", 2)

    def test_lines_behind_pass(self):
        for opening in ("repeat 2", "if set x"):
            self.wrong(f"givens 0\n{opening}\n  pass\n  make x", 3)
            self.wrong(f"givens 0\n{opening}\n  pass\n  pass", 3)
            self.wrong(f"givens 0\n{opening}\n  pass\n    make x", 3)
            self.assertEqual(len(self.same(f"givens 0\n{opening}\n  pass\nmake x")[1]), 2)
            self.assertEqual(len(self.same(f"givens 0\nrepeat 1\n  {opening}\n    pass\n  make x\nmake x")[1]), 2)
            self.wrong(f"givens 0\nrepeat 1\n  {opening}\n    pass\n  pass", 4)

    def test_else_where_it_cannot_stand(self):
        self.wrong("givens 0\nelse", 1)
        self.wrong("givens 0\nmake x\nelse", 2)
        self.wrong("givens 0\nrepeat 2\n  make x\nelse", 3)
        self.wrong("givens 0\nrepeat 2\n  pass\nelse", 3)
        self.wrong("givens 0\nif set x\nelse", 2)
        self.wrong("givens 0\nif set x\n  else", 2)
        self.wrong("givens 0\nif set x\n  make x\n  else", 3)
        self.wrong("givens 0\nif set x\n  pass\n  else", 3)
        self.wrong("givens 0\nif set x\n  make x\nelse\n  make x\nelse", 5)
        self.wrong("givens 0\nif set x\n  make x\nelse\nelse", 4)
        self.wrong("givens 0\nif set x\n  make x\nelse\n  else", 4)
        self.wrong("givens 0\nif set x\n  make x\nmake x\nelse", 4)
        self.wrong("givens 0\nif set x\n  make x\nelse \n  make x", 3)
        self.wrong("givens 0\nif set x\n  make x\n else\n  make x", 3)
        self.wrong("givens 0\nif set x\n  repeat 2\n    make x\n  else\n    make x", 4)
        self.wrong("givens 0\nif set x\n  if set y\n    make x\n  else\nelse", 5)
        self.wrong("givens 0\nrepeat 2\n  if set x\n    make x\nelse", 4)

    def test_else_of_an_outer_if(self):
        text = "givens 0\nif set x\n  if set y\n    make x\n  repeat 2\n    pass\nelse\n  make x"
        self.check(text, (0, (("if", ("set", "x"), (("if", ("set", "y"), (("make", "x"),), ()), ("repeat", 2, ())), (("make", "x"),)),)))
        text = "givens 0\nif set x\n  if set y\n    pass\n  else\n    make x\nelse\n  make x\nmake y"
        self.check(text, (0, (("if", ("set", "x"), (("if", ("set", "y"), (), (("make", "x"),)),), (("make", "x"),)), ("make", "y"))))

    def test_blocks_that_are_missing_at_the_end(self):
        for text, line in (("givens 0\nrepeat 2", 2), ("givens 0\nif set x", 2), ("givens 0\nif set x\n  pass\nelse", 4), ("givens 0\nif set x\n  repeat 1", 3),
                           ("givens 0\nif set x\n  make x\nelse\n  if set y", 5), ("givens 9\nmake x\nif not given 7", 3)):
            self.wrong(text, line)

    def test_the_first_wrong_line(self):
        self.wrong("givens 0\nmake x\nmake\nmak\n\n", 2)
        self.wrong("givens 0\nrepeat 99\nask given 77\nx", 2)
        # What is wrong with the text goes ahead of what is wrong with the program.
        self.wrong("givens 9\nrepeat 99\n  ask given 7\nmake", 3)
        self.check("givens 9\nrepeat 99\n  ask given 7", ("BadProgram", (None, "program")))
        self.check("givens 1\nrepeat 99\n  ask given 7", ("BadProgram", (0, "statement")))
        self.check("givens 1\nrepeat 9\n  ask given 7", ("BadProgram", (1, "statement")))


class Bounds(unittest.TestCase):

    def check(self, text, error):
        self.assertEqual(parsed(text), ("BadProgram", error))
        self.assertEqual(slow_parse(text), ("BadProgram", error))

    def test_nest(self):
        lines = ["givens 0"] + ["  " * depth + "repeat 1" for depth in range(5)] + ["          make x"]
        self.check("\n".join(lines), (5, "nest"))
        self.assertEqual(parsed("\n".join(lines[:5] + ["        make x"]))[0], 0)
        deep = ["givens 0"] + ["  " * depth + "if set x" for depth in range(40)] + ["  " * 40 + "pass"]
        self.check("\n".join(deep), (5, "nest"))
        self.assertEqual(parsed("\n".join(deep[:-1])), ("BadText", 41))

    def test_places(self):
        self.check("givens 0" + "\nmake x" * 31, (None, "places"))
        self.check("givens 0" + "\nmake x" * 300, (None, "places"))
        self.assertEqual(len(parsed("givens 0" + "\nmake x" * 30)[1]), 30)

    def test_weight(self):
        self.check("givens 0\nrepeat 12\n  repeat 12\n    make x\n    make x", (None, "weight"))
        self.assertEqual(parsed("givens 0\nrepeat 12\n  repeat 12\n    make x")[0], 0)

    def test_wishes(self):
        text = "givens 0\nmake x" + "".join(f"\nwish x {w}" for w in "abcd")
        self.assertEqual(parsed(text)[0], 0)
        self.check(text + "\nwish x e", (None, "wishes"))
        self.assertEqual(parsed(text + "\nwish x a")[0], 0)

    def test_times_and_givens(self):
        self.check("givens 0\nrepeat 13\n  pass", (0, "statement"))
        self.check("givens 3\nmake x\nask given 3", (1, "statement"))
        self.check("givens 0\nask not not not not set x", (0, "statement"))


class AlteredTexts(unittest.TestCase):

    def altered(self, source, text):
        lines = text.split("\n")
        at = source.randrange(len(lines))
        line = lines[at]
        kind = source.randrange(9)
        if kind == 0:
            lines[at:at + 1] = []
        elif kind == 1:
            lines[at:at] = [line]
        elif kind == 2:
            lines[at] = source.choice(("  ", " ", "    ")) + line
        elif kind == 3:
            lines[at] = line[source.choice((1, 2, 4)):]
        elif kind == 4:
            spaces = "  " * source.randrange(4)
            lines[at:at] = [spaces + source.choice(("pass", "else", "make x", "repeat 2", "if set x", "", "x = y", "say pass"))]
        elif kind == 5:
            lines = lines[:at + 1]
        elif kind == 6:
            k = source.randrange(len(line) + 1)
            lines[at] = line[:k] + source.choice("ax09 .=~-'\n") + line[k:]
        elif kind == 7:
            k = source.randrange(len(line) + 1)
            lines[at] = line[:k] + line[k + 1:]
        else:
            words = line.split(" ")
            words[source.randrange(len(words))] = source.choice(("x", "make", "not", "is", "x.f", "=", "~", "2", "-2", "w", "full", "given", "pass", "else"))
            lines[at] = " ".join(words)
        return "\n".join(lines)

    def test_the_same_as_the_slow_parser(self):
        source = random.Random(122)
        counts = {}
        for _ in range(700):
            givens, rows = random_program(source)
            rows = rows[-source.randrange(1, 6):]
            text = program_text((givens, rows))
            for _ in range(source.choice((1, 1, 2, 3))):
                text = self.altered(source, text)
            found = parsed(text)
            self.assertEqual(found, parsed(text))
            self.assertEqual(found, slow_parse(text), text)
            shown = found[0] if type(found[0]) is str else "program"
            counts[shown] = counts.get(shown, 0) + 1
        self.assertGreater(min(counts["BadText"], counts["program"]), 100, counts)


if __name__ == "__main__":
    unittest.main()
