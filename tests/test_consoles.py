"""Console: each command, right and with each error of the bench, and all that is no command."""

import random
import re
import unittest

from altering import ODD, nested
from exploring import small_program
from maybegone.benches import Bench, SureBench
from maybegone.consoles import Console
from maybegone.errors import GoneError, NoPlace
from maybegone.programs import program_error
from maybegone.texts import program_text
from reference import size
from test_benches import ASK, DEEP, LOOSE, MANY, PROGRAM, seen
from test_texts import FIELD, NAME, PLAIN, TEST, WORD, SlowParser

UNKNOWN = "unknown command"
N = r"(?:0|-?[1-9][0-9]{0,39})"
LINE = rf"(?:make {NAME}|keep {NAME}|drop {NAME}|wish {NAME} {WORD}|say {WORD}|{NAME} = {NAME}|{NAME} = {FIELD}|{FIELD} = {NAME}|{FIELD} ~ {NAME}|cut {FIELD}|ask {TEST})"
COMMAND = rf"add {LINE}|(?:drop|keep|hold|pause|resume) {N}|fewest|undo|redo|text|pauses|verdict|run(?: {N})* /(?: {N}:{N})*"


def slow_execute(bench, line):
    """What the console has to answer."""
    if type(line) is not str or not re.fullmatch(COMMAND, line):
        return UNKNOWN
    word, _, rest = line.partition(" ")
    try:
        if word == "add":
            return f"ok {bench.add(SlowParser(['givens 0', rest]).program()[1][0])}"
        if word in ("drop", "keep", "hold", "pause", "resume"):
            return f"ok {getattr(bench, word)(int(rest))}"
        if word in ("fewest", "undo", "redo"):
            return f"ok {getattr(bench, {'fewest': 'pause_fewest'}.get(word, word))()}"
        if word == "text":
            return " | ".join(program_text(bench.program).split("\n"))
        if word == "pauses":
            return " ".join(map(str, bench.pauses)) or "none"
        if word == "verdict":
            return "sure" if bench.verdict() is None else "noticed"
        left, right = rest.split("/")
        inputs = tuple(int(part) for part in left.split())
        plan = tuple(tuple(int(part) for part in pair.split(":")) for pair in right.split())
        answers, end = bench.outcome(inputs, plan)[:2]
        parts = [f"'{answer[1]}'" if answer[0] == "said" else answer[0] for answer in answers]
        return ", ".join(parts + ([f"stop {end[0]} {end[1]}"] if end else [])) or "none"
    except (GoneError, NoPlace) as error:
        return "error " + type(error).__name__


class Commands(unittest.TestCase):

    def execute(self, bench, *lines):
        console = Console(bench)
        return [console.execute(line) for line in lines]

    def test_add_each_kind(self):
        for row, line in PLAIN:
            bench = Bench((1, ()))
            self.assertEqual(self.execute(bench, "add " + line), ["ok 1"])
            self.assertEqual(bench.program, (1, (row,)))
            self.assertEqual(bench.edits(), (("add", row),))

    def test_add_what_is_no_statement_of_the_program(self):
        bench = Bench((2, LOOSE))
        before = seen(bench)
        for line in ("ask given 2", "ask given -1", "ask given " + "9" * 20, "ask given -" + "9" * 20, "ask not given 77", "ask not not not not set x", "ask " + "not " * 20 + "set x"):
            self.assertEqual(self.execute(bench, "add " + line), ["error BadProgram"])
        self.assertEqual(seen(bench), before)
        self.assertEqual(self.execute(bench, "add ask given 1", "add ask not not not set x"), ["ok 1", "ok 2"])
        self.assertEqual(self.execute(Bench((0, (("make", "x"),) * 30)), "add make x"), ["error BadProgram"])

    def test_add_what_is_no_line(self):
        bench = Bench((1, LOOSE))
        for line in ("if set x", "repeat 2", "repeat 0", "if given 0", "pass", "else", "givens 0", "", "make", "make X", "make make", "make  x", " make x", "make x ", "  make x", "make x y",
                     "x.f ~x", "x = ", "x", "x.f", "ask", "ask x", "ask given 00", "ask given -0", "ask given " + "9" * 21, "ask " + "not " * 21 + "set x", "make x\nmake y", "make x\n",
                     "say A", "say a23456789", "make a23456789", "ask set x set y", "set x", "add make x", "name x y", "hold x f y", "weak x f y", "take x y f"):
            self.assertEqual(self.execute(bench, "add " + line), [UNKNOWN], line)
        self.assertEqual(self.execute(bench, "add"), [UNKNOWN])
        self.assertEqual((len(bench), bench.program), (0, (1, LOOSE)))

    def test_edits_of_places(self):
        bench = Bench(DEEP)
        self.assertEqual(self.execute(bench, "pause 9", "pause 0", "keep 2", "hold 4", "drop 6", "resume 0", "pauses"), ["ok 1", "ok 2", "ok 3", "ok 4", "ok 5", "ok 6", "6"])
        self.assertEqual(bench.edits(), (("pause", 9), ("pause", 0), ("keep", 2), ("hold", 4), ("drop", 6), ("resume", 0)))

    def test_errors_of_edits(self):
        bench = Bench(PROGRAM, (4,))
        before = seen(bench)
        for word in ("drop", "keep", "hold", "pause", "resume"):
            for number in ("5", "-1", "9" * 40, "-" + "9" * 40, "31"):
                self.assertEqual(self.execute(bench, f"{word} {number}"), ["error NoPlace"])
        self.assertEqual(self.execute(bench, "keep 2", "hold 0", "pause 4", "resume 0", "undo", "redo"),
                         ["error NoMake", "error NoWeak", "error PauseThere", "error NoPause", "error NothingToUndo", "error NothingToRedo"])
        self.assertEqual(self.execute(Bench((0, (("make", "x"),) * 30)), "keep 0"), ["error BadProgram"])
        self.assertEqual(seen(bench), before)

    def test_numbers_that_are_none(self):
        bench = Bench(PROGRAM, (4,))
        for word in ("drop", "keep", "hold", "pause", "resume"):
            for number in ("", "00", "01", "-0", "-01", "+1", "-", "--1", "1" * 41, "-" + "1" * 41, "0" * 40, "x", "1x", "1.0", "1_0", " 1", "1 ", "0 0", "0x1", "1:1", "True"):
                self.assertEqual(self.execute(bench, f"{word} {number}"), [UNKNOWN])
            self.assertEqual(self.execute(bench, word, word + "0", f" {word} 0", f"{word}\n0", f"{word} 0\n", word.upper() + " 0"), [UNKNOWN] * 6)
        self.assertEqual((len(bench), bench.state()), (0, (PROGRAM, (4,))))

    def test_fewest(self):
        bench = Bench(PROGRAM, (0,))
        self.assertEqual(self.execute(bench, "fewest", "pauses", "verdict"), ["ok 1", "4", "sure"])
        self.assertEqual(bench.edits(), (("pause_fewest",),))
        self.assertEqual(self.execute(Bench((0, LOOSE + (("say", "a"),) * 3 + (ASK,))), "fewest"), ["error NoPauses"])
        self.assertEqual(self.execute(Bench((0, MANY)), "fewest"), ["error TooMany"])

    def test_undo_and_redo(self):
        bench = Bench(PROGRAM)
        self.assertEqual(self.execute(bench, "add say a", "pause 0", "undo", "undo", "undo", "redo", "redo", "redo"),
                         ["ok 1", "ok 2", "ok 1", "ok 0", "error NothingToUndo", "ok 1", "ok 2", "error NothingToRedo"])

    def test_text(self):
        self.assertEqual(self.execute(Bench((2, ())), "text"), ["givens 2"])
        self.assertEqual(self.execute(Bench(DEEP), "text"), [
            "givens 1 | make r | if given 0 |   make x |   r.f ~ x | else |   say a | repeat 2 |   repeat 3 |     make y |     drop y | say b"])

    def test_pauses(self):
        self.assertEqual([self.execute(Bench(DEEP, pauses), "pauses") for pauses in ((), (0,), (0, 3, 9))], [["none"], ["0"], ["0 3 9"]])

    def test_verdict(self):
        self.assertEqual([self.execute(bench, "verdict") for bench in (Bench(PROGRAM), Bench(PROGRAM, (4,)), Bench((0, MANY)), Bench((0, ())))],
                         [["noticed"], ["sure"], ["error TooMany"], ["sure"]])

    def test_run(self):
        bench = Bench(PROGRAM)
        self.assertEqual(self.execute(bench, "run /", "run / 4:1", "run / 3:1", "run / 0:0 4:1 5:1", "run / 1000000:1000000"), ["yes", "no", "yes", "no", "yes"])
        bench.pause(4)
        self.assertEqual(self.execute(bench, "run / 4:1"), ["yes"])
        self.assertEqual(self.execute(Bench(DEEP), "run 0 /", "run 1 /", "run 1 / 3:0"), ["'a', 'b'", "'b'", "'b'"])
        self.assertEqual(self.execute(Bench((3, ())), "run 0 1 1 /", "run 0 0 0 / 4:1 5:2"), ["none", "none"])

    def test_what_run_tells(self):
        self.assertEqual(self.execute(Bench((0, ())), "run /"), ["none"])
        self.assertEqual(self.execute(Bench((0, (("make", "x"),))), "run /"), ["none"])
        self.assertEqual(self.execute(Bench((0, (("keep", "x"),))), "run /"), ["stop name 0"])
        self.assertEqual(self.execute(Bench((0, (("say", "yes"), ("say", "stop"), ("ask", ("set", "x")), ("say", "0"), ("ask", ("not", ("set", "x"))), ("name", "x", "y"), ("say", "a")))), "run /"),
                         ["'yes', 'stop', no, '0', yes, stop name 5"])
        # It would ask 204 questions, twelve by each ask.
        wished = ("ask", ("wished", "w"))
        long = (("repeat", 12, (("make", "x"), ("wish", "x", "w"))), ("drop", "x"), ("say", "a"), ("repeat", 12, (wished,))) + (wished,) * 5
        self.assertEqual(self.execute(Bench((0, long)), "run /"), ["'a', " + "no, " * 16 + "stop long 11"])

    def test_errors_of_run(self):
        bench = Bench(DEEP)
        for line in ("run /", "run 2 /", "run -1 /", "run 0 0 /", "run / 0:0", "run " + "9" * 40 + " /", "run 7 / 1:1 0:0", "run 2 / -1:0"):
            self.assertEqual(self.execute(bench, line), ["error BadInputs"])
        for line in ("run 0 / 1:1 1:1", "run 0 / 2:0 1:0", "run 0 / 1:2 1:1", "run 0 / -1:0", "run 0 / 0:-1", "run 1 / 1000001:0", "run 1 / 0:1000001", "run 1 / 0:" + "9" * 40,
                     "run 1 /" + "".join(f" 1:{k}" for k in range(401))):
            self.assertEqual(self.execute(bench, line), ["error BadPlan"])
        self.assertEqual(self.execute(bench, "run 1 /" + "".join(f" 1:{k}" for k in range(400))), ["'b'"])

    def test_runs_that_are_none(self):
        bench = Bench(DEEP)
        for line in ("run", "run 0", "run 0 ", "run 0 / ", "run  0 /", "run 0  /", "run 0 /  0:0", "run 0 / 0:0 ", "run 0/", "run/ 0", "run 0 / 0", "run 0 / 0 0", "run 0 / 0:0:0", "run 0 / 0:",
                     "run 0 / :0", "run 0 / :", "run 0 / 0 :0", "run 0 / 0: 0", "run 0 / / 0:0", "run 0 / 0:0 /", "run / /", "run 00 /", "run -0 /", "run 0 / 00:0", "run 0 / 0:-0",
                     "run 0 / 0:01", "run 0 / +0:0", "run " + "1" * 41 + " /", "run 0 / 0:" + "1" * 41, "run 0 / 0,0", "run 0,1 /", "run x /", "run 0 / x:0", "run 0:0 /", "run 0 /\n",
                     "run 0 /0:0", "Run 0 /", " run 0 /", "run 0 / (0, 0)", "run True /", "run - /", "run 0 / -:0", "run 0 / 0;0", "run0 /", "run 0 | 0:0"):
            self.assertEqual(self.execute(bench, line), [UNKNOWN], line)

    def test_what_is_no_command(self):
        bench = Bench(DEEP, (1,))
        bench.pause(0)
        bench.undo()
        before = seen(bench)
        for line in ("", " ", "\n", "text ", " text", "text\n", "Text", "text text", "pauses 0", "verdict ", "verdict /", "fewest 1", "undo 1", "undo ", " undo", "redo redo", "add", "add ", "drop", "change 0 say a",
                     "change 0", "pause_fewest", "attempt", "attempt []", "state", "state 0", "outcome", "outcome /", "edits", "each_way", "program", "len", "str", "pause_all 0", "bench",
                     "if set x", "repeat 2", "make x", "help", "ok 1", "none", "sure", "error", "unknown command", "undo undo", "pause 0 1", "pause 0,1", "|= 0", "-= 0", "execute text", "x" * 3000):
            self.assertEqual(self.execute(bench, line), [UNKNOWN], line)
        for value in ODD + tuple(nested(20)) + (b"text", ("text",), ["undo"], {"text": 1}):
            self.assertEqual(self.execute(bench, value), [UNKNOWN])
        self.assertEqual(seen(bench), before)
        self.assertEqual(bench.redo(), 1)

    def test_too_many_edits(self):
        bench = Bench(PROGRAM)
        for _ in range(30):
            self.assertEqual(self.execute(bench, "pause 0", "resume 0")[0][:3], "ok ")
        self.assertEqual(self.execute(bench, "add say a", "drop 99", "keep 0", "hold 0", "pause 0", "resume 0", "fewest"), ["error TooManyEdits"] * 7)
        self.assertEqual(self.execute(bench, "undo", "redo", "verdict", "add ask given 4"), ["ok 59", "ok 60", "noticed", "error TooManyEdits"])

    def test_sure_benches(self):
        bench = SureBench(PROGRAM, (4,))
        self.assertEqual(self.execute(bench, "resume 4", "hold 2", "resume 4", "verdict", "undo", "pauses", "run / 4:1", "add say a", "fewest"),
                         ["error Unsure", "ok 1", "ok 2", "sure", "ok 1", "4", "yes", "ok 2", "ok 3"])
        bench = SureBench((0, LOOSE + (("repeat", 12, (("repeat", 6, (ASK,)),)),)), (4, 5, 6))
        self.assertEqual(self.execute(bench, "resume 6", "resume 5", "fewest"), ["error TooMany", "error Unsure", "error TooMany"])

    def test_the_very_same_bench(self):
        bench = Bench(PROGRAM)
        one, other = Console(bench), Console(bench)
        self.assertEqual([one.execute("pause 0"), other.execute("pauses"), other.execute("undo"), one.execute("pauses")], ["ok 1", "0", "ok 0", "none"])
        bench.pause(3)
        self.assertEqual((one.execute("pauses"), len(bench)), ("3", 1))
        bench += ("say", "a")
        self.assertEqual(one.execute("undo"), "ok 1")
        self.assertEqual(bench.program, PROGRAM)

    def test_the_same_call_twice(self):
        for line in ("text", "pauses", "verdict", "run / 4:1", "drop 99", "nothing"):
            console = Console(Bench(PROGRAM, (1,)))
            self.assertEqual(console.execute(line), console.execute(line))
            self.assertIs(type(console.execute(line)), str)


class AgainstTheSlowOne(unittest.TestCase):

    def line(self, source, bench):
        many = size(bench.program[1])
        number = str(source.choice((source.randrange(many + 1), source.randrange(many + 1), -1)))
        line = source.choice((
            "add " + source.choice(PLAIN)[1], source.choice(("drop", "keep", "keep", "hold", "hold", "pause", "pause", "resume")) + " " + number,
            source.choice(("fewest", "undo", "redo", "text", "pauses", "verdict")),
            "run" + "".join(f" {source.randrange(2)}" for _ in range(bench.program[0])) + " /" + "".join(
                f" {m}:{c}" for m, c in sorted({(source.randrange(20), source.randrange(5)) for _ in range(source.randrange(9))}))))
        if source.randrange(6) == 0:
            at = source.randrange(len(line) + 1)
            line = source.choice((line[:at] + source.choice(" 0-:/x\n") + line[at:], line[:at] + line[at + 1:], line.upper(), line + " " + line))
        return line

    def test_many_lines(self):
        source = random.Random(151)
        counts = {}
        for number in range(60):
            program = small_program(source)
            if program_error(program) is None:
                pauses = tuple(range(size(program[1]))) if number % 2 else ()
                bench, other = [(SureBench if number % 2 else Bench)(program, pauses) for _ in range(2)]
                console = Console(bench)
                for _ in range(40):
                    line = self.line(source, bench)
                    found = console.execute(line)
                    self.assertEqual(found, slow_execute(other, line), line)
                    self.assertEqual(seen(bench), seen(other))
                    shown = found if found.startswith(("error", "unknown")) else line.split(" ")[0]
                    counts[shown] = counts.get(shown, 0) + 1
        for shown in ("add drop keep hold pause resume fewest undo redo text pauses verdict run".split() + [UNKNOWN] + [
                "error " + name for name in "NoPlace NoMake NoWeak PauseThere NoPause NothingToUndo NothingToRedo BadProgram Unsure".split()]):
            self.assertGreater(counts.get(shown, 0), 2, (shown, counts))


if __name__ == "__main__":
    unittest.main()
