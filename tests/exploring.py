"""All runs of small programs, gone through one by one, to compare the package with.

It shares no code with the package. The statements are executed by the model of reference.py; at each
moment the collector tries every set of cells that it may clear.
"""

import itertools

from reference import Halt, Model, random_block, random_statement, size

NAMES = ("x", "y", "z")


def copied(model):
    other = Model(model.inputs, (), ())
    other.names = dict(model.names)
    other.cells = [dict(cell, fields=dict(cell["fields"])) for cell in model.cells]
    other.answers = list(model.answers)
    other.record = list(model.record)
    other.there = list(model.there)
    other.moment, other.place, other.end = model.moment, model.place, model.end
    return other


def subsets(items):
    return itertools.chain.from_iterable(itertools.combinations(items, many) for many in range(len(items) + 1))


def clearable_sets(model):
    """Every set of cells that the collector may clear now, the empty one too."""
    there = {k for k in range(len(model.cells)) if model.cells[k]["gone"] is None}
    loose = [k for k in sorted(there) if not model.is_reached(k)]
    return [chosen for chosen in subsets(loose) if model.comes_to(set(chosen), there) & there == set(chosen)]


def execute_one(model, rest):
    """Executes the next statement; returns what is left to be executed.

    rest is a list of pairs (block, place of its first statement); the last pair comes first.
    """
    block, place = rest[-1]
    statement = block[0]
    behind = rest[:-1] + [(block[1:], place + size((statement,)))]
    model.place = place
    try:
        following = model.next_block(statement)
    except Halt as halt:
        model.end = (str(halt), place)
        following = []
    model.there.append(len([k for k in model.cells if k["gone"] is None]))
    model.moment += 1
    return behind + [(inner, place + offset) for inner, offset in reversed(following)]


def all_runs(program, inputs, paused=(), most=1500):
    """A dict from the cleared pairs of each run to (answers, end, record, there), or None for more than most runs."""
    found = {}
    left = [(Model(inputs, (), ()), [(program[1], 0)])]
    while left:
        model, rest = left.pop()
        rest = [pair for pair in rest if pair[0]]
        if not rest or model.end is not None:
            cleared = sorted((c["gone"], k) for k, c in enumerate(model.cells) if c["gone"] is not None)
            found[tuple(cleared)] = (tuple(model.answers), model.end, tuple(model.record), tuple(model.there))
        else:
            choices = [()] if rest[-1][1] in paused else clearable_sets(model)
            for chosen in choices:
                other = copied(model)
                for cell in chosen:
                    other.cells[cell]["gone"] = model.moment
                left.append((other, execute_one(other, rest)))
        if len(found) + len(left) > most:
            return None
    return found


def all_ways(program, inputs, paused=(), most=1500):
    """The rows of ways, found by going through all runs, or None for too many runs."""
    runs = all_runs(program, inputs, paused, most)
    if runs is None:
        return None
    rows = []
    for record in sorted({row[2] for row in runs.values()}):
        same = {cleared: row for cleared, row in runs.items() if row[2] == record}
        assert len({row[:2] for row in same.values()}) == 1
        answers, end = next(iter(same.values()))[:2]
        rows.append((record, answers, end, late_run(same)))
    return rows


def moments_of(cleared):
    return {cell: moment for moment, cell in cleared}


def late_run(same):
    """The cleared pairs of the run in which as few cells as possible are cleared, each as late as possible."""
    fewest = min(len(cleared) for cleared in same)
    few = [moments_of(cleared) for cleared in same if len(cleared) == fewest]
    late = [one for one in few if all(one.keys() == other.keys() and all(one[k] >= other[k] for k in one) for other in few)]
    assert len(late) == 1, same
    # What is cleared in it is cleared in each of the runs.
    assert all(late[0].keys() <= moments_of(cleared).keys() for cleared in same)
    return tuple(sorted((moment, cell) for cell, moment in late[0].items()))


def early_run(same):
    """The cleared pairs of the run in which as many cells as possible are cleared, each as early as possible."""
    many = max(len(cleared) for cleared in same)
    full = [moments_of(cleared) for cleared in same if len(cleared) == many]
    early = [one for one in full if all(one.keys() == other.keys() and all(one[k] <= other[k] for k in one) for other in full)]
    assert len(early) == 1, same
    return tuple(sorted((moment, cell) for cell, moment in early[0].items()))


def small_start(source):
    """Statements that make a few cells, let some of them hold others, and drop some."""
    rows = [("make", "root")] + [("make", name) for name in NAMES[:source.randrange(1, 4)]]
    names = [row[1] for row in rows[1:]]
    for field in ("f", "g"):
        rows.append((source.choice(("weak", "weak", "weak", "hold")), "root", field, source.choice(names)))
    for name in names:
        if source.randrange(3) == 0:
            rows.append(("wish", name, source.choice("wv")))
        if source.randrange(3) == 0:
            rows.append(("hold", name, source.choice("fg"), source.choice(names)))
    rows += [("drop", name) for name in names if source.randrange(5)]
    return tuple(rows)


def small_program(source):
    """A program of which not too many runs are to be expected."""
    givens = source.choice((0, 0, 0, 1))
    rows = small_start(source)
    for _ in range(source.randrange(2, 5)):
        field = source.choice("fg")
        rows += source.choice((
            (("ask", ("full", "root", field)),),
            (("ask", ("wished", source.choice("wv"))),),
            (("take", source.choice(NAMES), "root", field),),
            (("drop", source.choice(NAMES)),),
            (("if", ("full", "root", field), (("take", "x", "root", field),), (("say", "b"),)),),
            random_block(source, givens, 2, 2),
            (random_statement(source, givens, 1),),
        ))
    return (givens, rows)
