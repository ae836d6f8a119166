"""What the document says of stories, schedules and steps, tried in the slowest way, to compare the package with.

It shares no code with the package: what is so at a moment is found by going through the items
again, what is reached by going round until nothing changes, and the schedules one by one.
"""

import itertools


def scene(story, moment):
    """What is so at the moment: (number of cells, cells that stand or are kept, {(holder, field): cell})."""
    cells, names, kept, fields = 0, {}, set(), {}
    for item in story[:moment]:
        for event in item:
            if event[0] == "make":
                assert event[1] == cells
                cells += 1
            elif event[0] == "stand":
                names[event[1]] = event[2]
            elif event[0] == "keep":
                kept.add(event[1])
            elif event[0] == "hold":
                fields[event[1:3]] = event[3]
    return cells, kept | {cell for cell in names.values() if cell is not None}, fields


def pairs_at(story, moment):
    """The pairs (holder, held) at the moment."""
    fields = scene(story, moment)[2]
    return {(holder, cell) for (holder, _), cell in fields.items() if cell is not None}


def closed(start, pairs):
    """The cells of start, and what can be come to from them by the pairs."""
    found = set(start)
    while True:
        more = {held for holder, held in pairs if holder in found} - found
        if not more:
            return found
        found |= more


def slow_reached(story, moment):
    return tuple(sorted(closed(scene(story, moment)[1], pairs_at(story, moment))))


def slow_comers(story, moment, cell):
    return tuple(sorted(closed({cell}, {(held, holder) for holder, held in pairs_at(story, moment)})))


def questions(story):
    return [(event[1], moment) for moment, item in enumerate(story) for event in item if event[0] == "ask"]


def births(story):
    """The first moment at which each cell is one."""
    return [moment + 1 for moment, item in enumerate(story) for event in item if event[0] == "make"]


def is_gone(schedule, cell, moment):
    return schedule[cell] is not None and schedule[cell] <= moment


def schedules(story):
    """Every schedule: a tuple with the first moment at which each cell is gone, or None."""
    born = births(story)
    moments = range(len(story))
    reached = [slow_reached(story, moment) for moment in moments]
    pairs = [pairs_at(story, moment) for moment in moments]
    choices = [[None] + [m for m in moments if m >= first and all(cell not in reached[k] for k in moments if k >= m)]
               for cell, first in enumerate(born)]
    found = []
    for schedule in itertools.product(*choices):
        if all(is_gone(schedule, holder, m) or not is_gone(schedule, held, m) for m in moments for holder, held in pairs[m]):
            found.append(schedule)
    return found


def agreeing(story, answers, found):
    """Those of the schedules that agree with the answers."""
    asked = questions(story)[:len(answers)]
    return [one for one in found if all(is_gone(one, c, m) == bool(a) for (c, m), a in zip(asked, answers))]


def slow_fate(found, cell, moment):
    fates = {is_gone(one, cell, moment) for one in found}
    return "open" if len(fates) == 2 else "gone" if fates == {True} else "there"


def slow_window(story, found, cell):
    moments = range(births(story)[cell], len(story))
    first = [m for m in moments if any(is_gone(one, cell, m) for one in found)]
    last = [m for m in moments if all(is_gone(one, cell, m) for one in found)]
    return (first[0] if first else None, last[0] if last else None)


def closure_fates(story, answers):
    """The fates {(cell, moment): fate} without schedules, for larger stories; None if the answers clash."""
    moments = range(len(story))
    born = births(story)
    nodes = [(c, m) for c in range(len(born)) for m in moments if m >= born[c]]
    further = {node: [] for node in nodes}
    back = {node: [] for node in nodes}
    there, gone = set(), set()
    edges = [((c, m), (c, m + 1)) for c, m in nodes if m + 1 < len(story)]
    for m in moments:
        edges += [((held, m), (holder, m)) for holder, held in pairs_at(story, m)]
        there |= {(c, m) for c in slow_reached(story, m)}
    for one, other in edges:
        further[one].append(other)
        back[other].append(one)
    for (cell, moment), answer in zip(questions(story), answers):
        (gone if answer else there).add((cell, moment))
    for start, ways in ((gone, further), (there, back)):
        left = list(start)
        while left:
            for node in ways[left.pop()]:
                if node not in start:
                    start.add(node)
                    left.append(node)
    if gone & there:
        return None
    return {node: "gone" if node in gone else "there" if node in there else "open" for node in nodes}


def integer(value):
    return type(value) is int


def slow_row(story, answers, rows, number):
    """Whether rows[number] is as described, if the rows ahead of it are."""
    row = rows[number]
    if type(row) is not tuple or len(row) != 4:
        return False
    cell, moment, state, why = row
    if not integer(cell) or not integer(moment) or not 0 <= moment < len(story):
        return False
    if not 0 <= cell < scene(story, moment)[0] or type(state) is not str or type(why) is not tuple or not why:
        return False
    if state not in ("gone", "there"):
        return False
    if why == ("reached",):
        return state == "there" and cell in slow_reached(story, moment)
    if len(why) != 2 or not integer(why[1]) or why[1] < 0:
        return False
    word, at = why
    if word == "asked":
        asked = questions(story)
        return at < len(answers) and asked[at] == (cell, moment) and answers[at] == (1 if state == "gone" else 0)
    if at >= number:
        return False
    earlier = rows[at]
    if earlier[2] != state:
        return False
    if word == "holder":
        return state == "gone" and earlier[1] == moment and (cell, earlier[0]) in pairs_at(story, moment)
    if word == "held":
        return state == "there" and earlier[1] == moment and (earlier[0], cell) in pairs_at(story, moment)
    if word == "later":
        return state == "gone" and earlier[0] == cell and earlier[1] < moment
    return word == "earlier" and state == "there" and earlier[0] == cell and earlier[1] > moment


def slow_steps_hold(story, answers, value):
    if type(value) is not tuple:
        return None
    for number in range(len(value)):
        if not slow_row(story, answers, value, number):
            return None
    said = {(row[0], row[1], row[2]) for row in value}
    return "clash" if any((c, m, "there") in said for c, m, state in said if state == "gone") else "hold"


def random_story(source, items, cells, questions_wanted):
    """A story that programs need not have: several events in an item, unreached cells that are held anew."""
    story, made, ahead = [], 0, 0
    left = questions_wanted
    names, fields = "xyz", "fg"
    for at in range(items):
        item = []
        for _ in range(source.choice((0, 1, 1, 2, 3))):
            kind = source.choice(("make", "make", "stand", "stand", "drop", "drop", "hold", "hold", "hold", "cut", "keep"))
            if kind == "make" and made < cells:
                item.append(("make", made))
                made += 1
            elif made and kind == "stand":
                item.append(("stand", source.choice(names), source.randrange(made)))
            elif kind == "drop":
                item.append(("stand", source.choice(names), None))
            elif made and kind == "hold":
                item.append(("hold", source.randrange(made), source.choice(fields), source.randrange(made)))
            elif made and kind == "cut":
                item.append(("hold", source.randrange(made), source.choice(fields), None))
            elif made and kind == "keep" and source.randrange(6) == 0:
                item.append(("keep", source.randrange(made)))
        while left and ahead and source.randrange(3) == 0:
            item.insert(source.randrange(len(item) + 1), ("ask", source.randrange(ahead)))
            left -= 1
        ahead = made
        story.append(tuple(item))
    return tuple(story)
