"""A second way to edit programs with pauses, to compare benches with.

It shares no code with the package but what benches rest on: program_error, noticed and pauses. A statement is a
dict that tells itself whether it is paused, so nothing has to be moved along.
"""

import copy

from maybegone.errors import TooMany
from maybegone.fixes import pauses as pauses_of
from maybegone.programs import program_error
from maybegone.verdicts import noticed

ITEMS = {"add": 1, "drop": 1, "change": 2, "keep": 1, "hold": 1, "pause": 1, "resume": 1}


class Fault(Exception):
    """An error that the bench has to raise: the name of its class and its fields."""

    def __init__(self, name, *fields):
        super().__init__(name, fields)
        self.told = (name,) + fields


def node_of(statement):
    blocks = statement[2:] if statement[0] in ("if", "repeat") else ()
    return {"head": statement[:len(statement) - len(blocks)], "blocks": [nodes_of(block) for block in blocks], "paused": False}


def nodes_of(block):
    return [node_of(statement) for statement in block]


def block_of(nodes):
    return tuple(node["head"] + tuple(block_of(inner) for inner in node["blocks"]) for node in nodes)


def walked(nodes):
    """A row (node, the list in which it lies, its index there) for each node, in the order of the places."""
    for at, node in enumerate(nodes):
        yield node, nodes, at
        for inner in node["blocks"]:
            yield from walked(inner)


def is_place(value, rows):
    return type(value) is int and 0 <= value < len(rows)


def checked(givens, nodes):
    error = program_error((givens, block_of(nodes)))
    if error is not None:
        raise Fault("BadProgram", error)


def with_other(givens, nodes, statement, lay):
    """The nodes in which lay has laid a node of the statement, which may be any value."""
    trial = copy.deepcopy(nodes)
    lay(trial, {"head": (), "blocks": [], "paused": False, "any": statement})

    def block(rows):
        return tuple(row["any"] if "any" in row else row["head"] + tuple(block(inner) for inner in row["blocks"]) for row in rows)

    error = program_error((givens, block(trial)))
    if error is not None:
        raise Fault("BadProgram", error)
    lay(nodes, node_of(statement))


class SlowState:
    """A program with pauses."""

    def __init__(self, program, pauses):
        self.givens = program[0]
        self.nodes = nodes_of(program[1])
        for place, row in enumerate(walked(self.nodes)):
            row[0]["paused"] = place in pauses

    def program(self):
        return (self.givens, block_of(self.nodes))

    def pauses(self):
        return tuple(place for place, row in enumerate(walked(self.nodes)) if row[0]["paused"])

    def edited(self, edit):
        """Another state, behind the edit."""
        other = copy.deepcopy(self)
        getattr(other, "do_" + edit[0])(*edit[1:])
        return other

    def row(self, place):
        rows = list(walked(self.nodes))
        if not is_place(place, rows):
            raise Fault("NoPlace", place)
        return rows[place]

    def do_add(self, statement):
        with_other(self.givens, self.nodes, statement, lambda nodes, node: nodes.append(node))

    def do_drop(self, place):
        _, rows, at = self.row(place)
        del rows[at]

    def do_change(self, place, statement):
        self.row(place)

        def lay(nodes, node):
            _, rows, at = list(walked(nodes))[place]
            rows[at] = node

        with_other(self.givens, self.nodes, statement, lay)

    def do_keep(self, place):
        node, rows, at = self.row(place)
        if node["head"][0] != "make":
            raise Fault("NoMake", place)
        rows.insert(at + 1, node_of(("keep", node["head"][1])))
        checked(self.givens, self.nodes)

    def do_hold(self, place):
        node = self.row(place)[0]
        if node["head"][0] != "weak":
            raise Fault("NoWeak", place)
        node["head"] = ("hold",) + node["head"][1:]

    def do_pause(self, place):
        node = self.row(place)[0]
        if node["paused"]:
            raise Fault("PauseThere", place)
        node["paused"] = True

    def do_resume(self, place):
        node = self.row(place)[0]
        if not node["paused"]:
            raise Fault("NoPause", place)
        node["paused"] = False

    def do_pause_all(self, places):
        rows = list(walked(self.nodes))
        if type(places) is not tuple or not all(is_place(place, rows) for place in places) or list(places) != sorted(set(places)):
            raise Fault("BadPauses", places)
        for place in places:
            rows[place][0]["paused"] = True

    def do_pause_fewest(self):
        try:
            found = pauses_of(self.program())
        except TooMany:
            raise Fault("TooMany")
        if found[0] == "many":
            raise Fault("NoPauses")
        for place, row in enumerate(walked(self.nodes)):
            row[0]["paused"] = place in found[1]


class SlowBench:
    """What a bench has to do, without watches."""

    def __init__(self, program, pauses=(), sure=False):
        self.sure = sure
        self.states = [SlowState(program, pauses)]
        self.told = []
        self.undone = []

    def now(self):
        return self.states[-1]

    def check(self, state):
        if self.sure:
            try:
                found = noticed(state.program(), paused=state.pauses())
            except TooMany:
                raise Fault("TooMany")
            if found is not None:
                raise Fault("Unsure", *found)

    def stand(self, edit, state):
        self.check(state)
        self.states.append(state)
        self.told.append(edit)
        self.undone = []
        return len(self.told)

    def do(self, edit):
        """Does an edit of any kind, undo, redo or attempt; returns what the method has to return."""
        if edit[0] == "undo":
            if not self.told:
                raise Fault("NothingToUndo")
            self.undone.append((self.told.pop(), self.states.pop()))
            return len(self.told)
        if edit[0] == "redo":
            if not self.undone:
                raise Fault("NothingToRedo")
            told, state = self.undone.pop()
            self.told.append(told)
            self.states.append(state)
            return len(self.told)
        if edit[0] == "attempt":
            return self.attempt(edit[1], edit[2])
        if len(self.told) == 60:
            raise Fault("TooManyEdits")
        return self.stand(edit, self.now().edited(edit))

    def attempt(self, items, most):
        """Does an attempt that ends behind so many items, if most is not None."""
        if type(items) not in (list, tuple) or len(items) > 20:
            raise Fault("BadEdits")
        for index, item in enumerate(items):
            if type(item) is not tuple or not item or type(item[0]) is not str or len(item) != 1 + ITEMS.get(item[0], -1):
                raise Fault("BadEdit", index)
        if not items:
            return 0
        if len(self.told) == 60:
            raise Fault("TooManyEdits")
        state = self.now()
        for index, item in enumerate(items[:most]):
            try:
                state = state.edited(item)
            except Fault:
                raise Fault("Rejected", index)
        done = tuple(items[:most])
        self.stand(("attempt", done), state)
        return len(done)
