"""Windows: by when cells must be gone, and up to when they must be there.

All that is known of cells goes on from one of them to others. A cell that is there was there
ahead of that, and so were those that it held; a cell that is gone stays so, and so do those that
hold it. It is enough to know, of each cell, the last time at which it must be there and the first
one at which it must be gone.
"""

from heapq import heappop, heappush

# For each state: how it goes on to other times, and how to other cells.
LINKS = {"there": ("earlier", "held"), "gone": ("later", "holder")}


class Windows:
    """What is known of the cells of an outline.

    The outline may grow in the meantime, as that of a run does: behind the times that were told,
    and so that nothing which must be gone is held anew.
    """

    def __init__(self, outline):
        self.outline = outline
        # For each cell of which this is known a tuple (time, why, source):
        # source is the cell from which it follows, or None, and then why tells it.
        self.there = {}
        self.gone = {}
        self.unsettled = []
        self.taken = 0

    def twin_windows(self):
        """Windows that know the same, and then go their own way."""
        other = Windows(self.outline)
        other.there = dict(self.there)
        other.gone = dict(self.gone)
        other.unsettled = list(self.unsettled)
        other.taken = self.taken
        return other

    def last_there(self, cell):
        """The last time at which the cell must be there, or the one ahead of its first one."""
        if cell in self.there:
            return self.there[cell][0]
        return self.outline.born[cell] - 1

    def first_gone(self, cell):
        """The first time at which the cell must be gone, or None."""
        return self.gone[cell][0] if cell in self.gone else None

    def fate_at(self, cell, time):
        """What the cell must be at this time, "gone" or "there", or "open"."""
        if self.last_there(cell) >= time:
            return "there"
        if cell in self.gone and self.gone[cell][0] <= time:
            return "gone"
        return "open"

    def settle(self, time):
        """Takes in what has been reached up to this time."""
        self.unsettled.extend(self.outline.roots[self.taken:])
        self.taken = len(self.outline.roots)
        for span in self.unsettled:
            last = span.last_by(time)
            if last is not None:
                self.force(span.held, last, "there", ("reached",))
        self.unsettled = [span for span in self.unsettled if span.last is None]

    def force(self, cell, time, state, why):
        """Lets the cell be in this state at this time, for this reason, and all that follows."""
        if state == "there":
            self._force_there(cell, time, why)
        else:
            self._force_gone(cell, time, why)

    # The queues have the latest time first for what is there, and the
    # earliest for what is gone: so each cell is gone through just once.

    def _force_there(self, cell, time, why):
        queue = []
        if self._learn_there(cell, (time, why, None)):
            heappush(queue, (-time, cell))
        while queue:
            minus, holder = heappop(queue)
            if self.last_there(holder) == -minus:
                for span in self.outline.holding[holder]:
                    last = span.last_by(-minus)
                    if last is not None and self._learn_there(span.held, (last, None, holder)):
                        heappush(queue, (-last, span.held))

    def _learn_there(self, cell, known):
        """Notes that the cell must be there up to the known time, unless this is known; tells whether it was not."""
        if known[0] <= self.last_there(cell):
            return False
        self.there[cell] = known
        return True

    def _force_gone(self, cell, time, why):
        queue = []
        if self._learn_gone(cell, (time, why, None)):
            heappush(queue, (time, cell))
        while queue:
            first, held = heappop(queue)
            if self.gone[held][0] == first:
                for span in self.outline.held_by[held]:
                    since = span.first_from(first)
                    if since is not None and self._learn_gone(span.holder, (since, None, held)):
                        heappush(queue, (since, span.holder))

    def _learn_gone(self, cell, known):
        """Notes that the cell must be gone from the known time on, unless this is known; tells whether it was not."""
        if cell in self.gone and self.gone[cell][0] <= known[0]:
            return False
        self.gone[cell] = known
        return True

    def _chain(self, cell, time, state):
        """Rows (cell, time, first known time, why): each one follows from the one behind it."""
        table = self.there if state == "there" else self.gone
        chain = []
        at = cell
        until = time
        while at is not None:
            known, why, source = table[at]
            chain.append((at, until, known, why))
            at = source
            until = known
        return chain

    def steps_to(self, cell, time, state):
        """Steps whose last row says that the cell is in this state at this time, which must be known."""
        to_times, to_cells = LINKS[state]
        rows = []
        for at, until, known, why in self._chain(cell, time, state)[::-1]:
            rows.append((at, known, state, (to_cells, len(rows) - 1) if rows else why))
            if until != known:
                rows.append((at, until, state, (to_times, len(rows) - 1)))
        return tuple(rows)

    def late_plan(self):
        """The ascending tuple of (time, cell) for each cell that must be gone at some time."""
        return tuple(sorted([(known[0], cell) for cell, known in self.gone.items()]))
