"""Outlines of stories: from when to when names stand for cells, and cells hold cells.

The times here are the moments of the story, or the times that a caller counts for them.
"""


class Span:
    """The times, from first to last, at which a strong field of the cell holder holds the cell held.

    The last time is None as long as no end is known. The holder is None if it is no cell: if a
    name stands for the cell held, or if this one is kept.
    """

    def __init__(self, holder, held, first):
        self.holder = holder
        self.held = held
        self.first = first
        self.last = None

    def last_by(self, time):
        """The last time of the span up to this one, or None if there is none."""
        last = time if self.last is None else min(self.last, time)
        return last if self.first <= last else None

    def first_from(self, time):
        """The first time of the span from this one on, or None if there is none."""
        first = max(self.first, time)
        return first if self.last is None or first <= self.last else None

    def covers(self, time):
        """Tells whether the time lies in the span."""
        return self.last_by(time) == time


class Outline:
    """What the events of a story bring about, and when."""

    def __init__(self):
        self.born = []
        self.roots = []
        self.holding = []
        self.held_by = []
        self.unfinished = {}

    def follow(self, event, before, after):
        """Takes in an event. It changes what was so up to the time before, from the time after on."""
        word = event[0]
        if word == "make":
            self.born.append(after)
            self.holding.append([])
            self.held_by.append([])
        elif word == "keep":
            self._begin(None, event[1], after)
        elif word == "stand":
            self._refill(event[1], None, event[2], before, after)
        elif word == "hold":
            self._refill((event[1], event[2]), event[1], event[3], before, after)

    def _refill(self, slot, holder, cell, before, after):
        """Lets the slot, a name or a pair of a holder and a field, have this cell, or nothing."""
        span = self.unfinished.pop(slot, None)
        if span is not None:
            span.last = before
        if cell is not None:
            self.unfinished[slot] = self._begin(holder, cell, after)

    def _begin(self, holder, cell, first):
        span = Span(holder, cell, first)
        if holder is None:
            self.roots.append(span)
        else:
            self.holding[holder].append(span)
            self.held_by[cell].append(span)
        return span

    def holds(self, holder, held, time):
        """Tells whether a strong field of the cell holder holds the cell held at this time."""
        return any([span.held == held and span.covers(time) for span in self.holding[holder]])

    def reached_cells(self, time):
        """A dict whose keys are the cells that are reached at this time."""
        left = [span.held for span in self.roots if span.covers(time)]
        found = {}
        while left:
            cell = left.pop()
            if cell not in found:
                found[cell] = True
                left.extend([span.held for span in self.holding[cell] if span.covers(time)])
        return found

    def coming_cells(self, cell, time):
        """A dict whose keys are the cells that come to the cell at this time."""
        left = [cell]
        found = {}
        while left:
            held = left.pop()
            if held not in found:
                found[held] = True
                left.extend([span.holder for span in self.held_by[held] if span.covers(time)])
        return found


def outline_of(story):
    """The outline of the whole story, with its moments as the times."""
    outline = Outline()
    for moment, item in enumerate(story):
        for event in item:
            outline.follow(event, moment, moment + 1)
    return outline


def questions_of(story):
    """A list of (cell, moment) for each question of the story, in order."""
    return [(event[1], moment) for moment, item in enumerate(story) for event in item if event[0] == "ask"]


def told_state(answer):
    """What this answer tells of the cell of its question."""
    return "gone" if answer == 1 else "there"
