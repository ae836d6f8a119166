"""Rooms: how few cells can be there at once without being noticed."""

from maybegone.runs import run, there_at
from maybegone.searches import all_ways
from maybegone.ways import early_plan


def room(program, inputs):
    """The least number of cells that are there at once in a run that is not noticed, and a plan that tells it."""
    plain = run(program, inputs)[:2]
    best = None
    for _, answers, end, plan in all_ways(program, inputs, ()):
        if (answers, end) == plain:
            # No run of the way has fewer cells anywhere than the early one.
            early = early_plan(program, inputs, plan)
            most = max(there_at(program, inputs, early), default=0)
            if best is None or most < best[0]:
                best = (most, early)
    return best
