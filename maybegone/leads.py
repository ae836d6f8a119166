"""Led runs: a program is executed without a collector, and its questions are answered for it."""

from maybegone.cells import Cells
from maybegone.machines import Machine, Stopped


class ToldCells(Cells):
    """Cells that write down what happens to them: a list of events for each executed statement."""

    def __init__(self):
        Cells.__init__(self)
        self.events = []

    def begin(self):
        """Begins the events of the next statement."""
        self.events.append([])

    def write(self, event):
        """Adds an event of this statement."""
        self.events[-1].append(event)

    def told_story(self):
        """The story up to now."""
        return tuple([tuple(item) for item in self.events])

    def make(self):
        """Makes a cell and returns its number."""
        cell = super().make()
        self.write(("make", cell))
        return cell

    def stand(self, name, cell):
        """Lets the name stand for the cell, or for nothing if it is None."""
        super().stand(name, cell)
        self.write(("stand", name, cell))

    def keep(self, cell):
        """Keeps the cell."""
        super().keep(cell)
        self.write(("keep", cell))

    def fill(self, cell, field, held, strong):
        """Fills the field of the cell with the cell held."""
        if strong:
            self.write(("hold", cell, field, held))
        else:
            self._let_go(cell, field)
        super().fill(cell, field, held, strong)

    def cut(self, cell, field):
        """Empties the field of the cell, if it is filled."""
        self._let_go(cell, field)
        super().cut(cell, field)

    def _let_go(self, cell, field):
        _, strong = self.fields[cell].get(field, (None, False))
        if strong:
            self.write(("hold", cell, field, None))


class LedMachine(Machine):
    """A machine that takes the answers to its questions from a tuple, and tells the story of its run."""

    def __init__(self, inputs, led):
        Machine.__init__(self, inputs)
        self.cells = ToldCells()
        self.led = led
        self.asked = []
        self.places = []

    def step(self, place, statement):
        """Executes one statement; returns what act returns, () if it stops."""
        self.cells.begin()
        self.places.append(place)
        return super().step(place, statement)

    def answer_about(self, cell):
        """The answer to the question about the cell."""
        self.asked.append((self.moment, self.place, cell))
        self.cells.write(("ask", cell))
        return self.next_answer(cell)

    def next_answer(self, _):
        """The answer to the question that has just been asked about this cell."""
        if len(self.record) >= len(self.led):
            raise Stopped("question")
        return self.led[len(self.record)]


def led_run(program, inputs, answers):
    """The tuple (answers, end, asked, story) of the led run on these inputs with these answers."""
    machine = LedMachine(inputs, answers)
    machine.execute(program)
    return (tuple(machine.answers), machine.end, tuple(machine.asked), machine.cells.told_story())
