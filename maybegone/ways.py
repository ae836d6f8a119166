"""Ways: which records the runs of a program have, and runs in which few or many cells are cleared."""

from maybegone.leads import led_run
from maybegone.runs import run
from maybegone.searches import all_ways, search
from maybegone.stories import Facts, cells_at


def ways(program, inputs, *, paused=()):
    """Yields a tuple (record, answers, end, plan) for each record that a run has."""
    rows = all_ways(program, inputs, paused)
    for row in rows:
        yield row


def way_of(program, inputs, plan, *, paused=()):
    """The tuple, as ways tells it, for the record of the run with this plan."""
    record = run(program, inputs, plan, paused=paused)[2]
    return search(program, inputs, record, paused).way()


def early_plan(program, inputs, plan):
    """The plan of the early run of the way of the run with this plan."""
    record = run(program, inputs, plan)[2]
    story = led_run(program, inputs, record)[3]
    facts = Facts(story, record)
    pairs = [(facts.window(cell)[0], cell) for cell in range(cells_at(story, len(story)))]
    return tuple(sorted([pair for pair in pairs if pair[0] is not None]))


def each_inputs(program):
    """Yields the inputs of the program, in ascending order."""
    rows = [()]
    for _ in range(program[0]):
        rows = [row + (bit,) for row in rows for bit in (0, 1)]
    for inputs in rows:
        yield inputs
