"""Rules of clearing: what a collector clears when it sees what is there."""

from maybegone.machines import Machine
from maybegone.ways import each_inputs


def _unreached(view):
    """The ascending tuple of the cells of the view that are not reached."""
    return tuple([cell for cell, _, reached, _ in view[2] if not reached])


class Rule:
    """Decides which cells are cleared. This rule names none."""

    def __call__(self, view):
        return self.names(view)

    def names(self, view):
        """The ascending tuple of the cells of the view that the rule names."""
        return ()

    def __and__(self, other):
        return Both(self, other)

    def __or__(self, other):
        return Either(self, other)

    def __sub__(self, other):
        return Without(self, other)


class Joined(Rule):
    """A rule that rests on two others."""

    def __init__(self, one, other):
        self._one = one
        self._other = other


class Both(Joined):
    """Names the cells that both rules name."""

    def names(self, view):
        """The ascending tuple of the cells of the view that the rule names."""
        others = {cell: True for cell in self._other.names(view)}
        return tuple([cell for cell in self._one.names(view) if cell in others])


class Either(Joined):
    """Names the cells that at least one of the rules names."""

    def names(self, view):
        """The ascending tuple of the cells of the view that the rule names."""
        return tuple(sorted(set(self._one.names(view) + self._other.names(view))))


class Without(Joined):
    """Names the cells that one rule names and the other does not."""

    def names(self, view):
        """The ascending tuple of the cells of the view that the rule names."""
        others = {cell: True for cell in self._other.names(view)}
        return tuple([cell for cell in self._one.names(view) if cell not in others])


class AtOnce(Rule):
    """Names all cells that are not reached."""

    def names(self, view):
        """The ascending tuple of the cells of the view that the rule names."""
        return _unreached(view)


class Counting(Rule):
    """Names the cells that nothing stands for and nothing holds, then those that only these hold, and so on."""

    def names(self, view):
        """The ascending tuple of the cells of the view that the rule names."""
        standing = {cell: stands for cell, stands, _, _ in view[2]}
        # How many holders of each cell are not named yet, and what each one holds.
        missing = {cell: len(holders) for cell, _, _, holders in view[2]}
        held = {}
        for cell, _, _, holders in view[2]:
            for holder in holders:
                held.setdefault(holder, []).append(cell)
        left = [cell for cell in missing if missing[cell] == 0 and not standing[cell]]
        named = []
        while left:
            holder = left.pop()
            named.append(holder)
            for cell in held.get(holder, []):
                missing[cell] = missing[cell] - 1
                if missing[cell] == 0 and not standing[cell]:
                    left.append(cell)
        return tuple(sorted(named))


class Places(Rule):
    """Names all cells that are not reached, ahead of the statements at some places."""

    def __init__(self, *places):
        self._places = places

    def names(self, view):
        """The ascending tuple of the cells of the view that the rule names."""
        return _unreached(view) if view[1] in self._places else ()


class Above(Rule):
    """Names all cells that are not reached, if more than so many are there."""

    def __init__(self, most):
        self._most = most

    def names(self, view):
        """The ascending tuple of the cells of the view that the rule names."""
        return _unreached(view) if len(view[2]) > self._most else ()


class RuledMachine(Machine):
    """A machine whose collector follows a rule, and does nothing at paused places."""

    def __init__(self, inputs, rule, paused):
        Machine.__init__(self, inputs)
        self.rule = rule
        self.paused = paused

    def collect(self):
        """Clears what the rule names."""
        if self.place not in self.paused:
            self.clear_named(self.rule.names(self.view()))

    def view(self):
        """The view of this moment."""
        reached = self.cells.reached()
        standing = self.cells.standing()
        holders = self.cells.holders()
        rows = []
        for cell in range(len(self.cells.fields)):
            if self.cells.is_there(cell):
                its = tuple(sorted(set(holders.get(cell, []))))
                rows.append((cell, cell in standing, cell in reached, its))
        return (self.moment, self.place, tuple(rows))


def run_by(program, inputs, rule, *, paused=()):
    """The tuple (answers, end, record, cleared) of the run by the rule."""
    machine = RuledMachine(inputs, rule, paused)
    machine.execute(program)
    return machine.result()


def plan_by(program, inputs, rule, *, paused=()):
    """The plan of the run by the rule."""
    return run_by(program, inputs, rule, paused=paused)[3]


def parted_by(program, one, other):
    """None if the runs by both rules have the same outcomes, otherwise inputs on which they have not."""
    for inputs in each_inputs(program):
        if run_by(program, inputs, one)[:2] != run_by(program, inputs, other)[:2]:
            return inputs
    return None
