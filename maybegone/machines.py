"""Machines execute programs: what each statement does, and which questions it asks."""

from maybegone.bounds import MAX_QUESTIONS
from maybegone.cells import Cells
from maybegone.programs import placed_block


class Stopped(Exception):
    """A statement stops the run; the word tells why."""

    def __init__(self, word):
        self.word = word


def _make(machine, x):
    cell = machine.cells.make()
    machine.cells.stand(x, cell)


def _wish(machine, x, w):
    machine.cells.wish(machine.needed(x), w)


def _keep(machine, x):
    machine.cells.keep(machine.needed(x))


def _name(machine, x, y):
    machine.cells.stand(x, machine.needed(y))


def _drop(machine, x):
    machine.cells.stand(x, None)


def _hold(machine, x, f, y):
    machine.cells.fill(machine.needed(x), f, machine.needed(y), True)


def _weak(machine, x, f, y):
    machine.cells.fill(machine.needed(x), f, machine.needed(y), False)


def _cut(machine, x, f):
    machine.cells.cut(machine.needed(x), f)


def _take(machine, z, x, f):
    held = machine.cells.held_in(machine.needed(x), f)
    if held is not None and machine.ask(held) == 1:
        held = None
    machine.cells.stand(z, held)


def _say(machine, w):
    machine.answers.append(("said", w))


def _ask(machine, test):
    answer = ("yes",) if machine.is_true(test) else ("no",)
    machine.answers.append(answer)


ACTIONS = {
    "make": _make,
    "wish": _wish,
    "keep": _keep,
    "name": _name,
    "drop": _drop,
    "hold": _hold,
    "weak": _weak,
    "cut": _cut,
    "take": _take,
    "say": _say,
    "ask": _ask,
}


def _test_given(machine, i):
    return machine.inputs[i] == 1


def _test_set(machine, x):
    return machine.cells.cell_of(x) is not None


def _test_same(machine, x, y):
    return machine.needed(x) == machine.needed(y)


def _test_full(machine, x, f):
    held = machine.cells.held_in(machine.needed(x), f)
    return held is not None and machine.ask(held) == 0


def _test_wished(machine, w):
    for cell in machine.cells.wishing(w):
        if machine.ask(cell) == 1:
            return True
    return False


TESTS = {
    "given": _test_given,
    "set": _test_set,
    "same": _test_same,
    "full": _test_full,
    "wished": _test_wished,
}


class Machine:
    """Executes a program once. Its collector clears nothing; classes below it may have another one."""

    def __init__(self, inputs):
        self.inputs = inputs
        self.cells = Cells()
        self.answers = []
        self.record = []
        self.there = []
        self.moment = 0
        self.place = 0
        self.end = None

    def collect(self):
        """What the collector does ahead of the statement at self.place, at self.moment."""

    def clear_named(self, named):
        """Clears those of the named cells that may be cleared now, and all that come to them."""
        # Clearing changes nothing about what is reached, so it is enough to
        # find the reached cells once, and to clear all that is named at once.
        reached = self.cells.reached()
        loose = [cell for cell in named if self.cells.is_there(cell) and cell not in reached]
        if loose:
            self.cells.clear_away(loose, self.moment)

    def needed(self, name):
        """The cell for which the name stands, which must stand for one."""
        cell = self.cells.cell_of(name)
        if cell is None:
            raise Stopped("name")
        return cell

    def ask(self, cell):
        """Asks a question about the cell and returns its answer, 1 or 0."""
        if len(self.record) >= MAX_QUESTIONS:
            raise Stopped("long")
        answer = self.answer_about(cell)
        self.record.append(answer)
        return answer

    def answer_about(self, cell):
        """1 if the cell is cleared, 0 if it is there."""
        return 0 if self.cells.is_there(cell) else 1

    def is_true(self, test):
        """Tells whether the test is true."""
        if test[0] == "not":
            return not self.is_true(test[1])
        check = TESTS[test[0]]
        parts = test[1:]
        return check(self, *parts)

    def act(self, statement):
        """Does what the statement does; returns the indexes of the blocks that come next, in order."""
        if statement[0] == "if":
            return (0,) if self.is_true(statement[1]) else (1,)
        if statement[0] == "repeat":
            return (0,) * statement[1]
        action = ACTIONS[statement[0]]
        parts = statement[1:]
        action(self, *parts)
        return ()

    def step(self, place, statement):
        """Executes one statement, the collector ahead of it; returns what act returns, () if it stops."""
        self.place = place
        self.collect()
        turns = ()
        try:
            turns = self.act(statement)
        except Stopped as stopped:
            self.end = (stopped.word, place)
        self.there.append(self.cells.many_there())
        self.moment = self.moment + 1
        return turns

    def execute_rows(self, rows):
        """Executes the statements of a placed block, up to the end of the run."""
        for place, statement, blocks in rows:
            # An earlier statement, or one in its blocks, may have stopped the run.
            if self.end is not None:
                return
            for turn in self.step(place, statement):
                self.execute_rows(blocks[turn])

    def execute(self, program):
        """Executes the program."""
        self.execute_rows(placed_block(program[1], 0))

    def result(self):
        """The tuple (answers, end, record, cleared) of the run."""
        return (tuple(self.answers), self.end, tuple(self.record), self.cells.cleared_pairs())
