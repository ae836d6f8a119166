"""Verdicts: whether the runs of programs can differ."""

from maybegone.runs import run
from maybegone.searches import all_ways, each_search
from maybegone.ways import each_inputs


def is_noticed(program, inputs, plan):
    """Tells whether the run with this plan is noticed."""
    return run(program, inputs, plan)[:2] != run(program, inputs)[:2]


def each_noticed(program, paused):
    """Yields (inputs, machine) for each way whose runs are noticed; raises TooMany() as noticed."""
    for inputs in each_inputs(program):
        plain = run(program, inputs)[:2]
        for machine in each_search(program, inputs, paused):
            if machine.outcome() != plain:
                yield (inputs, machine)


def noticed(program, *, paused=()):
    """None for a sure program, otherwise (inputs, plan) of a noticed run that clears as few cells as any."""
    found = None
    for inputs, machine in each_noticed(program, paused):
        plan = machine.late_plan()
        if found is None or len(plan) < len(found[1]):
            found = (inputs, plan)
    return found


def is_sure(program):
    """Tells whether the program is sure, as soon as this is known: it need not raise TooMany()."""
    for _ in each_noticed(program, ()):
        return False
    return True


def _outcomes(program, inputs):
    """A dict from each outcome, without the place of its stop, to a plan that brings it about."""
    found = {}
    for _, answers, end, plan in all_ways(program, inputs, ()):
        word = None if end is None else end[0]
        found.setdefault((answers, word), plan)
    return found


def _first_missing(found, others):
    """The plan of the first outcome that is not among the others, or None."""
    for outcome, plan in found.items():
        if outcome not in others:
            return plan
    return None


def alike(one, other):
    """None if both programs have the same outcomes, otherwise (which, inputs, plan) of a run that tells them apart."""
    found = None
    # All inputs are gone through in any case: there may be too many ways on some of them.
    for inputs in each_inputs(one):
        both = (_outcomes(one, inputs), _outcomes(other, inputs))
        for which in (0, 1):
            plan = _first_missing(both[which], both[1 - which])
            if found is None and plan is not None:
                found = (which, inputs, plan)
    return found
