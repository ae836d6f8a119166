"""What names, words, tests, statements, inputs and plans look like."""

from maybegone.bounds import MAX_GIVENS, MAX_NAME, MAX_PLAN, MAX_TIMES, MAX_WORD

LETTERS = "abcdefghijklmnopqrstuvwxyz"
DIGITS = "0123456789"
RESERVED = (
    "as", "ask", "cut", "drop", "else", "full", "given", "hold", "if", "keep", "make",
    "not", "pass", "repeat", "same", "say", "set", "take", "weak", "wish", "wished",
)
MOST_NOTS = 3
# The greatest moment, and the greatest cell, that a plan may name.
MOST_PLANNED = 1000000


def is_integer(value):
    """Tells whether the value is an int that is not a bool."""
    return isinstance(value, int) and not isinstance(value, bool)


def is_from_to(value, low, high):
    """Tells whether the value is an integer from low to high, both included."""
    return is_integer(value) and low <= value <= high


def is_word(value):
    """Tells whether the value is a word."""
    if not isinstance(value, str) or not 1 <= len(value) <= MAX_WORD:
        return False
    return all([sign in LETTERS or sign in DIGITS for sign in value])


def is_name(value):
    """Tells whether the value is a name (or a field)."""
    if not isinstance(value, str) or not 1 <= len(value) <= MAX_NAME:
        return False
    if value[0] not in LETTERS or value in RESERVED:
        return False
    return all([sign in LETTERS or sign in DIGITS for sign in value])


def is_givens(value):
    """Tells whether the value is a number of givens."""
    return is_from_to(value, 0, MAX_GIVENS)


# The checks of parts all take the number of givens, though most do not need
# it, so that the tables below can name any of them.


def _name_part(value, _):
    return is_name(value)


def _word_part(value, _):
    return is_word(value)


def _given_part(value, givens):
    return is_from_to(value, 0, givens - 1)


def _times_part(value, _):
    return is_from_to(value, 0, MAX_TIMES)


def _block_part(value, _):
    # What is in a block has places of its own and is checked there.
    return isinstance(value, tuple)


PLAIN_TESTS = {
    "given": (_given_part,),
    "set": (_name_part,),
    "same": (_name_part, _name_part),
    "full": (_name_part, _name_part),
    "wished": (_word_part,),
}


def first_word(value):
    """The text with which the tuple begins, or None."""
    if isinstance(value, tuple) and value and isinstance(value[0], str):
        return value[0]
    return None


def _parts_fit(parts, checks, givens):
    if len(parts) != len(checks):
        return False
    return all([check(part, givens) for check, part in zip(checks, parts)])


def is_test(value, givens):
    """Tells whether the value is a test, with this number of givens."""
    inner = value
    for _ in range(MOST_NOTS):
        if first_word(inner) == "not" and len(inner) == 2:
            inner = inner[1]
    checks = PLAIN_TESTS.get(first_word(inner))
    return checks is not None and _parts_fit(inner[1:], checks, givens)


STATEMENTS = {
    "make": (_name_part,),
    "wish": (_name_part, _word_part),
    "keep": (_name_part,),
    "name": (_name_part, _name_part),
    "drop": (_name_part,),
    "hold": (_name_part, _name_part, _name_part),
    "weak": (_name_part, _name_part, _name_part),
    "cut": (_name_part, _name_part),
    "take": (_name_part, _name_part, _name_part),
    "say": (_word_part,),
    "ask": (is_test,),
    "if": (is_test, _block_part, _block_part),
    "repeat": (_times_part, _block_part),
}


def is_statement(value, givens):
    """Tells whether the value is a statement, whatever is in its blocks."""
    checks = STATEMENTS.get(first_word(value))
    return checks is not None and _parts_fit(value[1:], checks, givens)


def is_pair(value):
    """Tells whether the value is a tuple of two items."""
    return isinstance(value, tuple) and len(value) == 2


def is_ascending(items):
    """Tells whether the items, which can be compared, stand in ascending order, none of them twice."""
    return all([one < other for one, other in zip(items, items[1:])])


def is_bits(value):
    """Tells whether the value is a tuple of integers 0 and 1."""
    return isinstance(value, tuple) and all([is_from_to(item, 0, 1) for item in value])


def is_inputs(value, givens):
    """Tells whether the value is inputs of a program with this number of givens."""
    return is_bits(value) and len(value) == givens


def is_places(value, many):
    """Tells whether the value is an ascending tuple of places of a program with so many statements."""
    if not isinstance(value, tuple) or not all([is_from_to(item, 0, many - 1) for item in value]):
        return False
    return is_ascending(value)


def _is_planned(value):
    return is_pair(value) and all([is_from_to(item, 0, MOST_PLANNED) for item in value])


def is_plan(value):
    """Tells whether the value is a plan."""
    if not isinstance(value, tuple) or len(value) > MAX_PLAN:
        return False
    return all([_is_planned(item) for item in value]) and is_ascending(value)
