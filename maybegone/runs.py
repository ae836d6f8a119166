"""Runs of programs with plans."""

from maybegone.machines import Machine


class PlannedMachine(Machine):
    """A machine whose collector follows a plan, and does nothing at paused places."""

    def __init__(self, inputs, plan, paused):
        Machine.__init__(self, inputs)
        self.paused = paused
        self.planned = {}
        for moment, cell in plan:
            self.planned.setdefault(moment, []).append(cell)

    def collect(self):
        """Clears what the plan names for this moment."""
        if self.moment in self.planned and self.place not in self.paused:
            self.clear_named(self.planned[self.moment])


def _planned_run(program, inputs, plan, paused):
    machine = PlannedMachine(inputs, plan, paused)
    machine.execute(program)
    return machine


def run(program, inputs, plan=(), *, paused=()):
    """The tuple (answers, end, record, cleared) of the run on these inputs with this plan."""
    return _planned_run(program, inputs, plan, paused).result()


def there_at(program, inputs, plan=(), *, paused=()):
    """The numbers of cells that are there behind each executed statement of this run."""
    return tuple(_planned_run(program, inputs, plan, paused).there)
