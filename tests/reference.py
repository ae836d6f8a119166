"""A second way to run programs, slow and plain, to compare the package with, and programs to run.

It shares no code with the package. Each cell is a dict, and what is reached or comes to a cell
is found by going round until nothing changes.
"""

import random

NAMES = ("x", "y", "z")
FIELDS = ("f", "g")
WORDS = ("w", "v")
# Statements of these kinds are taken as often as they stand here.
KINDS = (
    "make make make wish wish keep name drop drop drop drop hold hold weak weak weak cut take take say "
    "ask ask ask ask ask"
).split()


class Halt(Exception):
    pass


class Model:
    """One run, executed by play."""

    def __init__(self, inputs, plan, paused):
        self.inputs = inputs
        self.plan = plan
        self.paused = paused
        self.names = {}
        self.cells = []
        self.answers = []
        self.record = []
        self.there = []
        self.moment = 0
        self.place = 0
        self.end = None

    def comes_to(self, goal, allowed):
        """The cells among allowed that come to one of the cells in goal."""
        found = set(goal)
        while True:
            more = {
                k for k in allowed
                if k not in found and any(kind == "hold" and at in found for kind, at in self.cells[k]["fields"].values())
            }
            if not more:
                return found
            found |= more

    def is_reached(self, cell):
        everyone = set(range(len(self.cells)))
        comers = self.comes_to({cell}, everyone)
        return any(self.cells[k]["kept"] or k in self.names.values() for k in comers)

    def collector(self):
        for moment, cell in self.plan:
            if moment == self.moment and self.place not in self.paused:
                there = {k for k in range(len(self.cells)) if self.cells[k]["gone"] is None}
                if cell in there and not self.is_reached(cell):
                    for k in self.comes_to({cell}, there) & there:
                        self.cells[k]["gone"] = moment

    def cell(self, name):
        if name not in self.names:
            raise Halt("name")
        return self.names[name]

    def question(self, cell):
        if len(self.record) == 200:
            raise Halt("long")
        self.record.append(0 if self.cells[cell]["gone"] is None else 1)
        return bool(self.record[-1])

    def true(self, test):
        if test[0] == "not":
            return not self.true(test[1])
        if test[0] == "given":
            return self.inputs[test[1]] == 1
        if test[0] == "set":
            return test[1] in self.names
        if test[0] == "same":
            return self.cell(test[1]) == self.cell(test[2])
        if test[0] == "full":
            field = self.cells[self.cell(test[1])]["fields"].get(test[2])
            return field is not None and not self.question(field[1])
        assert test[0] == "wished"
        return any(self.question(k) for k in range(len(self.cells)) if self.cells[k]["wish"] == test[1])

    def plain(self, s):
        if s[0] == "make":
            self.cells.append({"fields": {}, "wish": None, "kept": False, "gone": None})
            self.names[s[1]] = len(self.cells) - 1
        elif s[0] == "wish":
            self.cells[self.cell(s[1])]["wish"] = s[2]
        elif s[0] == "keep":
            self.cells[self.cell(s[1])]["kept"] = True
        elif s[0] == "name":
            self.names[s[1]] = self.cell(s[2])
        elif s[0] == "drop":
            self.names.pop(s[1], None)
        elif s[0] in ("hold", "weak"):
            holder, held = self.cell(s[1]), self.cell(s[3])
            self.cells[holder]["fields"][s[2]] = (s[0], held)
        elif s[0] == "cut":
            self.cells[self.cell(s[1])]["fields"].pop(s[2], None)
        elif s[0] == "take":
            field = self.cells[self.cell(s[2])]["fields"].get(s[3])
            if field is None or self.question(field[1]):
                self.names.pop(s[1], None)
            else:
                self.names[s[1]] = field[1]
        elif s[0] == "say":
            self.answers.append(("said", s[1]))
        else:
            assert s[0] == "ask"
            self.answers.append(("yes" if self.true(s[1]) else "no",))

    def next_block(self, s):
        """Executes the statement; returns the pairs (block, its offset) that come next."""
        if s[0] == "if":
            return [(s[2], 1)] if self.true(s[1]) else [(s[3], 1 + size(s[2]))]
        if s[0] == "repeat":
            return [(s[2], 1)] * s[1]
        self.plain(s)
        return []

    def play(self, block, place):
        for s in block:
            self.place = place
            self.collector()
            try:
                following = self.next_block(s)
            except Halt as halt:
                self.end = (str(halt), place)
                following = []
            self.there.append(len([k for k in self.cells if k["gone"] is None]))
            self.moment += 1
            for inner, offset in following:
                if self.end is None:
                    self.play(inner, place + offset)
            if self.end is not None:
                return
            place += size((s,))


def size(block):
    """The number of statements in the block, inner ones counted."""
    total = 0
    for s in block:
        total += 1
        if s[0] in ("if", "repeat"):
            total += sum(size(inner) for inner in s[2:])
    return total


def slow_run(program, inputs, plan=(), paused=()):
    """What run and there_at have to return."""
    model = Model(inputs, plan, paused)
    model.play(program[1], 0)
    cleared = sorted((c["gone"], k) for k, c in enumerate(model.cells) if c["gone"] is not None)
    return (tuple(model.answers), model.end, tuple(model.record), tuple(cleared)), tuple(model.there)


def random_holder(source):
    """Mostly the root, which stands for a cell in most runs."""
    return source.choice(("root",) * 6 + NAMES)


def random_test(source, givens):
    kind = source.choice(("set", "same", "full", "full", "full", "full", "wished", "wished", "given", "not"))
    if kind == "given" and givens:
        return ("given", source.randrange(givens))
    if kind == "not":
        return ("not", random_test(source, 0))
    if kind == "same":
        return ("same", random_holder(source), random_holder(source))
    if kind == "full":
        return ("full", random_holder(source), source.choice(FIELDS))
    if kind == "wished":
        return ("wished", source.choice(WORDS))
    return ("set", source.choice(NAMES))


def random_statement(source, givens, depth):
    kind = source.choice(KINDS + ["if", "if", "repeat"] if depth < 3 else KINDS)
    x, holder, held = source.choice(NAMES), random_holder(source), random_holder(source)
    f, w = source.choice(FIELDS), source.choice(WORDS)
    if kind == "if":
        yes = random_block(source, givens, depth + 1, 3)
        return ("if", random_test(source, givens), yes, random_block(source, givens, depth + 1, 3))
    if kind == "repeat":
        return ("repeat", source.randrange(4), random_block(source, givens, depth + 1, 4))
    if kind == "ask":
        return ("ask", random_test(source, givens))
    rest = {
        "make": (x,), "wish": (held, w), "keep": (x,), "name": (x, holder), "drop": (x,), "hold": (holder, f, held),
        "weak": (holder, f, held), "cut": (holder, f), "take": (x, holder, f), "say": (w,),
    }
    return (kind,) + rest[kind]


def random_rows(source, givens, depth):
    """One statement, or a few that make something which can be cleared and noticed."""
    x, y, f = source.choice(NAMES), source.choice(NAMES), source.choice(FIELDS)
    kind = source.randrange(12)
    if kind == 0:
        return (("make", x), ("weak", "root", f, x), ("drop", x))
    if kind == 1:
        return (("make", x), ("wish", x, source.choice(WORDS)), ("drop", x))
    if kind == 2:
        return (("make", x), ("make", y), ("hold", y, f, x), ("weak", "root", f, x), ("drop", x), ("drop", y))
    if kind in (3, 4):
        return (("ask", source.choice((("full", "root", f), ("wished", source.choice(WORDS))))),)
    return (random_statement(source, givens, depth),)


def random_block(source, givens, depth, most):
    rows = ()
    for _ in range(source.randrange(most + 1)):
        rows += random_rows(source, givens, depth)
    return rows


def random_start(source):
    """Statements without which most runs would stop at once, or never have anything to clear."""
    rows = [("make", name) for name in ("root",) + NAMES]
    rows += [("wish", name, source.choice(WORDS)) for name in NAMES if source.randrange(3) == 0]
    rows += [(source.choice(("weak", "weak", "hold")), "root", f, source.choice(NAMES)) for f in FIELDS]
    rows += [("hold", source.choice(NAMES), source.choice(FIELDS), source.choice(NAMES)) for _ in range(source.randrange(3))]
    rows += [("drop", name) for name in NAMES if source.randrange(2) == 0]
    return tuple(rows)


def random_program(source):
    givens = source.randrange(3)
    return (givens, random_start(source) + random_block(source, givens, 0, 12))


def random_plan(source, many):
    """A plan of at most so many pairs."""
    return tuple(sorted({(source.randrange(28), source.randrange(7)) for _ in range(many)}))


def random_cases(seed, many):
    """Yields (program, inputs, plan, paused), always the same ones for the same seed."""
    source = random.Random(seed)
    for _ in range(many):
        program = random_program(source)
        inputs = tuple(source.randrange(2) for _ in range(program[0]))
        plan = random_plan(source, source.choice((0, 3, 10, 60, 200)))
        paused = tuple(p for p in range(size(program[1])) if source.randrange(6) == 0)
        yield program, inputs, plan, paused
