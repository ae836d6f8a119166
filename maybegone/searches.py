"""Searches for the records of runs, without trying plans.

A run is led, and at each question the windows of the cells tell which answers are possible. A cell
that is cleared at all can just as well be cleared at the last moment ahead of the question at which
the collector acts, so nothing else has to be chosen.
"""

from maybegone.bounds import MAX_WAYS
from maybegone.errors import TooMany
from maybegone.leads import LedMachine
from maybegone.outlines import Outline, told_state
from maybegone.windows import Windows


class SearchMachine(LedMachine):
    """A led machine that finds answers of its own when those that it was given are used up.

    It answers "there" where this is possible. The turnings are the beginnings of records with
    which it could have gone another way. Those answers that it was given must be possible.
    """

    def __init__(self, inputs, led, paused):
        LedMachine.__init__(self, inputs, led)
        self.paused = paused
        self.outline = Outline()
        self.windows = Windows(self.outline)
        self.time = -1
        self.turnings = []

    def collect(self):
        """Takes in what the statement ahead of this one has done."""
        # Nothing is cleared from one moment at which the collector acts up to
        # the next one, so all moments between them count as the same time.
        before = self.time
        if self.place not in self.paused:
            self.time = self.moment
        if self.moment > 0:
            for event in self.cells.events[self.moment - 1]:
                self.outline.follow(event, before, self.time)

    def next_answer(self, cell):
        """The answer to the question that has just been asked about this cell."""
        self.windows.settle(self.time)
        answer = self._chosen(cell)
        self.windows.force(cell, self.time, told_state(answer), ("asked", len(self.record)))
        return answer

    def _chosen(self, cell):
        if len(self.record) < len(self.led):
            return self.led[len(self.record)]
        fate = self.windows.fate_at(cell, self.time)
        if fate == "open":
            self.turnings.append(tuple(self.record) + (1,))
        return 1 if fate == "gone" else 0

    def outcome(self):
        """The outcome of the runs of the way."""
        return (tuple(self.answers), self.end)

    def late_plan(self):
        """The plan of the late run of the way."""
        return self.windows.late_plan()

    def way(self):
        """The tuple (record, answers, end, plan) of the way, with the plan of the late run."""
        return (tuple(self.record), tuple(self.answers), self.end, self.late_plan())

    def clearings(self):
        """A list of (cell, first, last) for each cell of the late run.

        Some run of the way clears the cell at the time first, some at last, some at each time
        between them, and none at other times.
        """
        # What was reached behind the last question counts, too.
        self.windows.settle(self.time)
        return [(cell, self.windows.last_there(cell) + 1, last) for last, cell in self.late_plan()]


def search(program, inputs, led, paused):
    """The machine that has executed the program with these first answers."""
    machine = SearchMachine(inputs, led, paused)
    machine.execute(program)
    return machine


def each_search(program, inputs, paused):
    """Yields the machine of each way, in ascending order of the records.

    Raises TooMany() as soon as it is known that there are too many records.
    """
    many = 0
    left = [()]
    while left:
        machine = search(program, inputs, left.pop(), paused)
        # The turnings come in the order in which they were met, and the one
        # that was met last is the first one behind this record.
        left.extend(machine.turnings)
        many = many + 1
        # Each turning is the beginning of at least one record.
        if many + len(left) > MAX_WAYS:
            raise TooMany()
        yield machine


def all_ways(program, inputs, paused):
    """A list of all ways, in ascending order of their records. Raises TooMany() if it is too long."""
    return [machine.way() for machine in each_search(program, inputs, paused)]
