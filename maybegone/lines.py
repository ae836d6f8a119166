"""Lines: how statements and tests are written, and how they are read."""

from maybegone.kinds import DIGITS, is_name, is_word

MOST_READ_DIGITS = 20
MOST_READ_NOTS = 20


def written_test(test):
    """The text of the test."""
    if test[0] == "not":
        return "not " + written_test(test[1])
    if test[0] == "same":
        return f"{test[1]} is {test[2]}"
    if test[0] == "full":
        return f"full {test[1]}.{test[2]}"
    return f"{test[0]} {test[1]}"


def line_of(statement):
    """The line of the statement, without those of its blocks."""
    word = statement[0]
    if word == "name":
        return f"{statement[1]} = {statement[2]}"
    if word == "take":
        return f"{statement[1]} = {statement[2]}.{statement[3]}"
    if word == "hold":
        return f"{statement[1]}.{statement[2]} = {statement[3]}"
    if word == "weak":
        return f"{statement[1]}.{statement[2]} ~ {statement[3]}"
    if word == "cut":
        return f"cut {statement[1]}.{statement[2]}"
    if word == "wish":
        return f"wish {statement[1]} {statement[2]}"
    if word in ("ask", "if"):
        return f"{word} {written_test(statement[1])}"
    return f"{word} {statement[1]}"


def integer_in(text, most):
    """The integer that the text writes with at most so many digits, or None."""
    digits = text[1:] if text.startswith("-") else text
    if not 1 <= len(digits) <= most or not all([sign in DIGITS for sign in digits]):
        return None
    # There are no zeros ahead, and no "-0".
    if digits[0] == "0" and text != "0":
        return None
    return int(text)


# Each of these reads one part of a line, which has no spaces in it. It returns
# a tuple of what the part tells, or None.


def _name_part(text):
    return (text,) if is_name(text) else None


def _word_part(text):
    return (text,) if is_word(text) else None


def _field_part(text):
    parts = text.split(".")
    return tuple(parts) if len(parts) == 2 and all([is_name(part) for part in parts]) else None


def _integer_part(text):
    number = integer_in(text, MOST_READ_DIGITS)
    return None if number is None else (number,)


def _is_part(text):
    return () if text == "is" else None


def _becomes_part(text):
    return () if text == "=" else None


def _refers_part(text):
    return () if text == "~" else None


# What stands in lines and tests behind the word with which they begin.

WORDED_TESTS = {
    "given": (_integer_part,),
    "set": (_name_part,),
    "full": (_field_part,),
    "wished": (_word_part,),
}
WORDED_LINES = {
    "make": (_name_part,),
    "wish": (_name_part, _word_part),
    "keep": (_name_part,),
    "drop": (_name_part,),
    "cut": (_field_part,),
    "say": (_word_part,),
    "repeat": (_integer_part,),
}
# The lines that begin with no such word.
OTHER_LINES = {
    "name": (_name_part, _becomes_part, _name_part),
    "take": (_name_part, _becomes_part, _field_part),
    "hold": (_field_part, _becomes_part, _name_part),
    "weak": (_field_part, _refers_part, _name_part),
}
SAME_PARTS = (_name_part, _is_part, _name_part)


def _read(kind, words, readers):
    """A tuple of the kind and what the words tell, each read by its reader, or None."""
    if len(words) != len(readers):
        return None
    found = (kind,)
    for word, reader in zip(words, readers):
        part = reader(word)
        if part is None:
            return None
        found = found + part
    return found


def _plain_test_in(words):
    if words and words[0] in WORDED_TESTS:
        return _read(words[0], words[1:], WORDED_TESTS[words[0]])
    return _read("same", words, SAME_PARTS)


def _test_in(words):
    """The test that the words write, or None."""
    nots = 0
    while nots < len(words) and words[nots] == "not":
        nots = nots + 1
    test = _plain_test_in(words[nots:])
    if test is None or nots > MOST_READ_NOTS:
        return None
    for _ in range(nots):
        test = ("not", test)
    return test


def _other_line_in(words):
    for kind in OTHER_LINES:
        found = _read(kind, words, OTHER_LINES[kind])
        if found is not None:
            return found
    return None


def head_in(line):
    """The statement that the line writes, without the blocks of an if or repeat, or None."""
    words = line.split(" ")
    if words[0] in ("ask", "if"):
        test = _test_in(words[1:])
        return None if test is None else (words[0], test)
    if words[0] in WORDED_LINES:
        return _read(words[0], words[1:], WORDED_LINES[words[0]])
    return _other_line_in(words)
