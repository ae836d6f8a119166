"""Consoles: a bench that is worked on by lines of text."""

from maybegone.errors import (
    BadInputs, BadPlan, BadProgram, Busy, NoMake, NoPause, NoPauses, NoPlace, NothingToRedo, NothingToUndo, NoWeak,
    PauseThere, TooMany, TooManyEdits, Unsure,
)
from maybegone.lines import head_in, integer_in
from maybegone.texts import program_text

MOST_DIGITS = 40
UNKNOWN = "unknown command"


def _joined(parts, between):
    """The parts with this text between two of them, or the word "none" if there are no parts."""
    if not parts:
        return "none"
    return between.join(parts)


def _done(version):
    """The answer to an edit that has led to this version."""
    return f"ok {version}"


# The commands without anything behind them, and those with one integer. Each
# of these takes the bench and returns the answer.


def _fewest(bench):
    return _done(bench.pause_fewest())


def _undo(bench):
    return _done(bench.undo())


def _redo(bench):
    return _done(bench.redo())


def _text(bench):
    return program_text(bench.program).replace("\n", " | ")


def _pauses(bench):
    return _joined([str(place) for place in bench.pauses], " ")


def _verdict(bench):
    return "sure" if bench.verdict() is None else "noticed"


def _drop(bench, place):
    return _done(bench.drop(place))


def _keep(bench, place):
    return _done(bench.keep(place))


def _hold(bench, place):
    return _done(bench.hold(place))


def _pause(bench, place):
    return _done(bench.pause(place))


def _resume(bench, place):
    return _done(bench.resume(place))


ALONE = {"fewest": _fewest, "undo": _undo, "redo": _redo, "text": _text, "pauses": _pauses, "verdict": _verdict}
NUMBERED = {"drop": _drop, "keep": _keep, "hold": _hold, "pause": _pause, "resume": _resume}


def _numbered(bench, word, text):
    place = integer_in(text, MOST_DIGITS)
    if place is None:
        return None
    action = NUMBERED[word]
    return action(bench, place)


def _added(bench, line):
    statement = head_in(line)
    if statement is None or statement[0] in ("if", "repeat"):
        return None
    return _done(bench.add(statement))


def _integers_in(texts):
    """The tuple of the integers that the texts write, or None."""
    numbers = [integer_in(text, MOST_DIGITS) for text in texts]
    return None if None in numbers else tuple(numbers)


def _pairs_in(texts):
    """The tuple of the pairs of integers that the texts write, or None."""
    pairs = [_integers_in(text.split(":")) for text in texts]
    if None in pairs or not all([len(pair) == 2 for pair in pairs]):
        return None
    return tuple(pairs)


def _outcome_text(answers, end):
    parts = ["'" + answer[1] + "'" if answer[0] == "said" else answer[0] for answer in answers]
    if end is not None:
        parts.append(f"stop {end[0]} {end[1]}")
    return _joined(parts, ", ")


def _ran(bench, words):
    if words.count("/") != 1:
        return None
    at = words.index("/")
    inputs = _integers_in(words[:at])
    plan = _pairs_in(words[at + 1:])
    if inputs is None or plan is None:
        return None
    answers, end, _, _ = bench.outcome(inputs, plan)
    return _outcome_text(answers, end)


def _answer(bench, line):
    """The answer to the line, or None if it is no command."""
    words = line.split(" ")
    if line in ALONE:
        action = ALONE[line]
        return action(bench)
    if words[0] in NUMBERED and len(words) == 2:
        return _numbered(bench, words[0], words[1])
    if words[0] == "add":
        return _added(bench, line[len("add "):])
    if words[0] == "run":
        return _ran(bench, words[1:])
    return None


def _answer_or_error(bench, line):
    """What _answer returns, or the answer that tells the error that the bench has raised."""
    try:
        return _answer(bench, line)
    except Busy:
        return "error Busy"
    except TooManyEdits:
        return "error TooManyEdits"
    except NoPlace:
        return "error NoPlace"
    except NoMake:
        return "error NoMake"
    except NoWeak:
        return "error NoWeak"
    except PauseThere:
        return "error PauseThere"
    except NoPause:
        return "error NoPause"
    except BadProgram:
        return "error BadProgram"
    except NoPauses:
        return "error NoPauses"
    except NothingToUndo:
        return "error NothingToUndo"
    except NothingToRedo:
        return "error NothingToRedo"
    except BadInputs:
        return "error BadInputs"
    except BadPlan:
        return "error BadPlan"
    except TooMany:
        return "error TooMany"
    except Unsure:
        return "error Unsure"


class Console:
    """Works on a bench by commands, lines of text."""

    def __init__(self, bench):
        self._bench = bench

    def execute(self, line):
        """Does what the line says and returns the answer."""
        answer = _answer_or_error(self._bench, line) if isinstance(line, str) else None
        return UNKNOWN if answer is None else answer
