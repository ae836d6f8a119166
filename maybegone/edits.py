"""Edits of a program with pauses: what each one makes of them, and what it cannot do."""

from maybegone.bounds import BATCH
from maybegone.errors import (
    BadEdit, BadEdits, BadPauses, BadProgram, NoMake, NoPause, NoPauses, NoWeak, PauseThere,
)
from maybegone.fixes import Keeps, Strongs, pauses
from maybegone.kinds import first_word, is_places
from maybegone.programs import program_error, rebuilt, size_of, statement_at


def checked_program(value):
    """The value, which must be a program."""
    error = program_error(value)
    if error is not None:
        raise BadProgram(error)
    return value


def checked_pauses(program, value):
    """The value, which must be an ascending tuple of places of the program."""
    if not is_places(value, size_of(program[1])):
        raise BadPauses(value)
    return value


def _moved(paused, first, old, new):
    """The pauses when so many new statements, from the place first on, stand for so many old ones."""
    kept = [place for place in paused if place < first or place >= first + old]
    return tuple([place if place < first else place - old + new for place in kept])


# Each of these takes the program, the pauses, which are called paused here,
# and the values of the edit, and returns the program and the pauses behind it.


def _add(program, paused, statement):
    return (checked_program((program[0], program[1] + (statement,))), paused)


def _drop(program, paused, place):
    old = size_of((statement_at(program, place),))
    return (rebuilt(program, {place: ()}), _moved(paused, place, old, 0))


def _change(program, paused, place, statement):
    old = size_of((statement_at(program, place),))
    changed = checked_program(rebuilt(program, {place: (statement,)}))
    return (changed, _moved(paused, place, old, size_of((statement,))))


def _keep(program, paused, place):
    statement = statement_at(program, place)
    if statement[0] != "make":
        raise NoMake(place)
    changed = checked_program(rebuilt(program, {place: Keeps().changed(statement)}))
    return (changed, _moved(paused, place + 1, 0, 1))


def _hold(program, paused, place):
    statement = statement_at(program, place)
    if statement[0] != "weak":
        raise NoWeak(place)
    return (rebuilt(program, {place: Strongs().changed(statement)}), paused)


def _pause(program, paused, place):
    statement_at(program, place)
    if place in paused:
        raise PauseThere(place)
    return (program, tuple(sorted(paused + (place,))))


def _resume(program, paused, place):
    statement_at(program, place)
    if place not in paused:
        raise NoPause(place)
    return (program, tuple([other for other in paused if other != place]))


def _pause_all(program, paused, places):
    return (program, tuple(sorted(set(paused + checked_pauses(program, places)))))


def _pause_fewest(program, _):
    found = pauses(program)
    if found[0] != "pauses":
        raise NoPauses()
    return (program, found[1])


EDITS = {
    "add": _add,
    "drop": _drop,
    "change": _change,
    "keep": _keep,
    "hold": _hold,
    "pause": _pause,
    "resume": _resume,
    "pause_all": _pause_all,
    "pause_fewest": _pause_fewest,
}
# The edits that can be items of an attempt, with the number of their values.
ITEMS = {"add": 1, "drop": 1, "change": 2, "keep": 1, "hold": 1, "pause": 1, "resume": 1}


def edited(program, paused, edit):
    """The program and its pauses behind the edit, a tuple of its name and its values."""
    action = EDITS[edit[0]]
    values = edit[1:]
    return action(program, paused, *values)


def _is_item(value):
    word = first_word(value)
    return word in ITEMS and len(value) == 1 + ITEMS[word]


def items_of(value):
    """The list of the items of an attempt, which the value must be."""
    if not isinstance(value, (list, tuple)) or len(value) > BATCH:
        raise BadEdits()
    items = list(value)
    for index, item in enumerate(items):
        if not _is_item(item):
            raise BadEdit(index)
    return items
