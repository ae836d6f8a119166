"""Benches: programs with pauses that are edited, with undo and attempts."""

from maybegone.edits import checked_pauses, checked_program, edited, items_of
from maybegone.errors import (
    BadInputs, BadPlan, Busy, GoneError, NoPlace, NothingToRedo, NothingToUndo, NoVersion, Rejected, TooManyEdits,
    Unsure,
)
from maybegone.kinds import is_from_to, is_inputs, is_plan
from maybegone.programs import size_of, statement_at
from maybegone.runs import run
from maybegone.searches import all_ways
from maybegone.verdicts import noticed


def _checked_inputs(program, value):
    """The value, which must be inputs of the program."""
    if not is_inputs(value, program[0]):
        raise BadInputs(value)
    return value


class Bench:
    """A program and its pauses, which are edited."""

    # The number MAX_EDITS.
    MOST_EDITS = 60

    def __init__(self, program, pauses=()):
        self.program = checked_program(program)
        self.pauses = checked_pauses(program, pauses)
        self._accept(program, pauses)
        self._first = (program, pauses)
        # The edits that stand, and those that undo has removed and redo can
        # put back, the one that was removed last at the end. Each is a pair of
        # the edit and of the program and the pauses behind it.
        self._standing = ()
        self._undone = ()
        self._busy = False

    def _accept(self, program, pauses):
        """Raises an error if the bench must not have this program with these pauses."""

    # The queries.

    def __len__(self):
        return len(self._standing)

    def __str__(self):
        return f"{size_of(self.program[1])} statements, {len(self.pauses)} pauses, {len(self._standing)} edits"

    def __eq__(self, other):
        if not isinstance(other, Bench) or isinstance(self, SureBench) != isinstance(other, SureBench):
            return False
        return self.program == other.program and self.pauses == other.pauses

    def __getitem__(self, at):
        return statement_at(self.program, at)

    def __iter__(self):
        raise TypeError("a bench is not iterated over")

    def verdict(self):
        """What noticed returns for the program with the pauses paused."""
        return noticed(self.program, paused=self.pauses)

    def outcome(self, inputs, plan):
        """What run returns for the program, these inputs and this plan, with the pauses paused."""
        _checked_inputs(self.program, inputs)
        if not is_plan(plan):
            raise BadPlan(plan)
        return run(self.program, inputs, plan, paused=self.pauses)

    def state(self, *, version=None):
        """The tuple (program, pauses) of this version, or of the present one."""
        if version is None:
            return (self.program, self.pauses)
        if not is_from_to(version, 0, len(self._standing)):
            raise NoVersion(version)
        return self._first if version == 0 else self._standing[version - 1][1]

    def each_way(self, inputs, *, version=None):
        """Yields what ways yields for the program and these inputs, with the pauses paused, in this version."""
        program, paused = self.state(version=version)
        rows = all_ways(program, _checked_inputs(program, inputs), paused)
        for row in rows:
            yield row

    def edits(self):
        """The tuple of the edits that stand."""
        return tuple([edit for edit, _ in self._standing])

    # The edits.

    def add(self, statement):
        """Puts the statement at the end of the program's block."""
        return self._edit(("add", statement))

    def drop(self, place):
        """Removes the statement at the place, with its blocks."""
        return self._edit(("drop", place))

    def change(self, place, statement):
        """Puts the statement in the place of the one at the place, and of its blocks."""
        return self._edit(("change", place, statement))

    def keep(self, place):
        """Puts a keep statement behind the make statement at the place."""
        return self._edit(("keep", place))

    def hold(self, place):
        """Puts a hold statement in the place of the weak statement at the place."""
        return self._edit(("hold", place))

    def pause(self, place):
        """Adds the place to the pauses."""
        return self._edit(("pause", place))

    def resume(self, place):
        """Removes the place from the pauses."""
        return self._edit(("resume", place))

    def pause_fewest(self):
        """Pauses at the fewest places that make the program sure, and at no others."""
        return self._edit(("pause_fewest",))

    def __setitem__(self, at, worth):
        self.change(at, worth)

    def __iadd__(self, other):
        self.add(other)
        return self

    def __isub__(self, other):
        self.drop(other)
        return self

    def __ior__(self, other):
        self._edit(("pause_all", other))
        return self

    def undo(self):
        """Removes the last edit that stands."""
        self._require_free()
        if not self._standing:
            raise NothingToUndo()
        removed = self._standing[-1]
        self._stand(self._standing[:-1], self._undone + (removed,))
        return len(self._standing)

    def redo(self):
        """Puts the edit that was removed last in its place again."""
        self._require_free()
        if not self._undone:
            raise NothingToRedo()
        removed = self._undone[-1]
        self._stand(self._standing + (removed,), self._undone[:-1])
        return len(self._standing)

    def attempt(self, edits, *, watch=None):
        """Does the edits as a single one, up to the first one behind which watch says so; returns how many."""
        self._require_free()
        items = items_of(edits)
        if not items:
            return 0
        self._require_room()
        standing, undone, program, paused = self._standing, self._undone, self.program, self.pauses
        # Nothing but watch, and what it returns, can find the bench busy.
        self._busy = True
        try:
            done = self._do_items(items, watch)
            self._accept(self.program, self.pauses)
            standing, undone, program, paused = self._standing, (), self.program, self.pauses
        finally:
            # If anything went wrong, all is as it was.
            self._busy = False
            self._standing = standing
            self._undone = undone
            self.program = program
            self.pauses = paused
        return done

    def _require_free(self):
        if self._busy:
            raise Busy()

    def _require_room(self):
        if len(self._standing) >= self.MOST_EDITS:
            raise TooManyEdits()

    def _stand(self, standing, undone):
        """Lets these edits stand."""
        self._standing = standing
        self._undone = undone
        self.program, self.pauses = standing[-1][1] if standing else self._first

    def _edit(self, edit):
        """Does the edit and returns the new version."""
        self._require_free()
        self._require_room()
        program, paused = edited(self.program, self.pauses, edit)
        self._accept(program, paused)
        self._stand(self._standing + ((edit, (program, paused)),), ())
        return len(self._standing)

    def _do_items(self, items, watch):
        """Does the items of an attempt, up to the one behind which watch ends it; returns how many."""
        ahead = self._standing
        done = ()
        for index, item in enumerate(items):
            try:
                state = edited(self.program, self.pauses, item)
            except (GoneError, NoPlace):
                raise Rejected(index) from None
            done = done + (item,)
            self._stand(ahead + ((("attempt", done), state),), self._undone)
            if watch is not None and watch(self):
                break
        return len(done)


class SureBench(Bench):
    """A bench whose program is sure with its pauses paused, in each of its versions."""

    def _accept(self, program, pauses):
        found = noticed(program, paused=pauses)
        if found is not None:
            inputs, plan = found
            raise Unsure(inputs, plan)
