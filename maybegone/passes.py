"""Passes: a collector that clears, at some moments, all that is not reached."""

from maybegone.machines import Machine


class PassMachine(Machine):
    """A machine whose collector makes a pass at some moments."""

    def __init__(self, inputs, moments):
        Machine.__init__(self, inputs)
        self.moments = {moment: True for moment in moments}

    def collect(self):
        """Clears all that is there and not reached, if this is a moment for it."""
        if self.moment in self.moments:
            self.clear_named(list(range(len(self.cells.fields))))


class PlainMachine(Machine):
    """A machine that executes the plain run, and notes what a pass would clear."""

    def __init__(self, inputs):
        Machine.__init__(self, inputs)
        # For each moment the cells that are not reached at it, and for each
        # cell the last moment at which it is asked about.
        self.loose = []
        self.last_asked = {}

    def collect(self):
        """Clears nothing, but notes which cells are not reached."""
        reached = self.cells.reached()
        self.loose.append([cell for cell in range(len(self.cells.fields)) if cell not in reached])

    def answer_about(self, cell):
        """0, as nothing is cleared."""
        self.last_asked[cell] = self.moment
        return super().answer_about(cell)

    def is_quiet(self, moment):
        """Tells whether the moment is quiet."""
        return all([self.last_asked.get(cell, -1) < moment for cell in self.loose[moment]])


def _pass_machine(program, inputs, moments):
    machine = PassMachine(inputs, moments)
    machine.execute(program)
    return machine


def _plain_machine(program, inputs):
    machine = PlainMachine(inputs)
    machine.execute(program)
    return machine


def run_passes(program, inputs, moments):
    """The tuple (answers, end, record, cleared) of the run with passes at these moments."""
    return _pass_machine(program, inputs, moments).result()


def quiet_moments(program, inputs):
    """The ascending tuple of the quiet moments of the plain run."""
    machine = _plain_machine(program, inputs)
    return tuple([moment for moment in range(len(machine.loose)) if machine.is_quiet(moment)])


def crowded(program, inputs, moments, limit):
    """The first moment of the run with these passes behind which more than limit cells are there, or None."""
    for moment, many in enumerate(_pass_machine(program, inputs, moments).there):
        if many > limit:
            return moment
    return None


def fewest_passes(program, inputs, limit):
    """A tuple of the word "passes" and as few quiet moments as keep the limit, or ("crowded", moment)."""
    machine = _plain_machine(program, inputs)
    chosen = []
    # The last quiet moment up to now, how many cells a pass at it clears, and
    # how many the chosen passes have cleared. A pass at a later quiet moment
    # clears more, so one is made as late as it can be.
    quiet = None
    clearing = 0
    cleared = 0
    for moment, many in enumerate(machine.there):
        if machine.is_quiet(moment):
            quiet = moment
            clearing = len(machine.loose[moment])
        if many - cleared > limit:
            if many - clearing > limit:
                return ("crowded", moment)
            chosen.append(quiet)
            cleared = clearing
    return ("passes", tuple(chosen))
