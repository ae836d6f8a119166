"""Verdicts: whether the runs of programs can differ."""

from maybegone.runs import run
from maybegone.searches import all_ways
from maybegone.ways import each_inputs


def noticed(program, *, paused=()):
    """None for a sure program, otherwise (inputs, plan) of a noticed run that clears as few cells as any."""
    found = None
    for inputs in each_inputs(program):
        plain = run(program, inputs)[:2]
        for _, answers, end, plan in all_ways(program, inputs, paused):
            if (answers, end) != plain and (found is None or len(plan) < len(found[1])):
                found = (inputs, plan)
    return found


def _outcomes(program, inputs):
    """A dict from each outcome, without the place of its stop, to a plan that brings it about."""
    found = {}
    for _, answers, end, plan in all_ways(program, inputs, ()):
        word = None if end is None else end[0]
        found.setdefault((answers, word), plan)
    return found


def _first_missing(found, others):
    """The plan of the first outcome that is not among the others, or None."""
    for outcome, plan in found.items():
        if outcome not in others:
            return plan
    return None


def alike(one, other):
    """None if both programs have the same outcomes, otherwise (which, inputs, plan) of a run that tells them apart."""
    found = None
    # All inputs are gone through in any case: there may be too many ways on some of them.
    for inputs in each_inputs(one):
        both = (_outcomes(one, inputs), _outcomes(other, inputs))
        for which in (0, 1):
            plan = _first_missing(both[which], both[1 - which])
            if found is None and plan is not None:
                found = (which, inputs, plan)
    return found
