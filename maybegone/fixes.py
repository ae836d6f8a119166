"""Fixes: where cells must be kept, references be strong, or the collector pause, to make a program sure."""

from maybegone.bounds import MAX_FIXES, MAX_FIX_PLACES
from maybegone.choices import first_choice
from maybegone.errors import NoPlace, TooMany
from maybegone.programs import make_places, rebuilt, statement_at, weak_places
from maybegone.verdicts import each_noticed, is_sure, noticed


def _tuples_of(items, many):
    """The ascending tuples of so many of the items, which are ascending themselves, in ascending order."""
    rows = [()]
    for _ in range(many):
        rows = [row + (item,) for row in rows for item in items if not row or item > row[-1]]
    return rows


class Fix:
    """A change that can be made at some places of a program. This one has no places and changes nothing."""

    def places_of(self, program):
        """The ascending tuple of the places of the program at which the fix can be made."""
        return ()

    def changed(self, statement):
        """The tuple of the statements that stand for this one when the fix is made there."""
        return (statement,)

    def applied(self, program, places):
        """The program in which the fix is made at these places."""
        allowed = self.places_of(program)
        for place in places:
            if place not in allowed:
                raise NoPlace(place)
        return rebuilt(program, {place: self.changed(statement_at(program, place)) for place in places})

    def fewest(self, program):
        """The first of the shortest tuples of places at which the fix makes the program sure, or None."""
        places = self.places_of(program)
        if len(places) > MAX_FIX_PLACES:
            raise TooMany()
        if noticed(program) is None:
            return ()
        # A fix gives no records to a program, so there are not too many from
        # here on, and it is enough to know whether the programs are sure.
        for many in range(1, MAX_FIXES + 1):
            for chosen in _tuples_of(places, many):
                if is_sure(self.applied(program, chosen)):
                    return chosen
        return None


class Keeps(Fix):
    """Cells are kept as soon as they are made."""

    def places_of(self, program):
        """The ascending tuple of the places of the program at which the fix can be made."""
        return make_places(program)

    def changed(self, statement):
        """The tuple of the statements that stand for this one when the fix is made there."""
        if statement[0] == "make":
            return (statement, ("keep", statement[1]))
        return (statement,)


class Strongs(Fix):
    """Weak references become strong."""

    def places_of(self, program):
        """The ascending tuple of the places of the program at which the fix can be made."""
        return weak_places(program)

    def changed(self, statement):
        """The tuple of the statements that stand for this one when the fix is made there."""
        if statement[0] == "weak":
            return (("hold",) + statement[1:],)
        return (statement,)


# What takes a noticed way away: a kept cell takes away just the runs in which
# it is cleared, and a cell of the late run is cleared in all runs of the way.
# Paused places do it if they are all places at which such a cell can be cleared.


def _keep_options(machine):
    """For each cell of the late run the place at which it is made, alone in a tuple."""
    born = machine.outline.born
    return [(machine.places[born[cell] - 1],) for cell, _, _ in machine.clearings()]


def _pause_options(machine):
    """For each cell of the late run the places at which the runs of the way clear it."""
    return [tuple(sorted(set(machine.places[first:last + 1]))) for _, first, last in machine.clearings()]


def _named(word, chosen):
    return ("many",) if chosen is None else (word, chosen)


def keeps(program):
    """A tuple of the word "keeps" and the fewest places of make statements whose cells must be kept, or ("many",)."""
    families = [_keep_options(machine) for _, machine in each_noticed(program, ())]
    return _named("keeps", first_choice(families, MAX_FIXES))


def pauses(program):
    """A tuple of the word "pauses" and the fewest places at which the collector must pause, or ("many",)."""
    families = [_pause_options(machine) for _, machine in each_noticed(program, ())]
    return _named("pauses", first_choice(families, MAX_FIXES))
