"""Programs: what they are, their statements and places."""

from maybegone.bounds import MAX_NEST, MAX_PLACES, MAX_WEIGHT, MAX_WISHES
from maybegone.errors import NoPlace
from maybegone.kinds import is_givens, is_integer, is_statement


def blocks_of(statement):
    """The blocks in the statement: two of an if, one of a repeat, else none."""
    if statement[0] in ("if", "repeat"):
        return statement[2:]
    return ()


def rows_of(block, depth):
    """A row (depth, statement) for each statement of the block, inner ones too, in order."""
    rows = []
    for statement in block:
        rows.append((depth, statement))
        for inner in blocks_of(statement):
            rows.extend(rows_of(inner, depth + 1))
    return rows


def placed_block(block, first):
    """A row (place, statement, blocks) for each statement of the block, its blocks placed likewise.

    The first statement of the block has the place first.
    """
    rows = []
    place = first
    for statement in block:
        behind = place + 1
        placed = []
        for inner in blocks_of(statement):
            placed.append(placed_block(inner, behind))
            behind = behind + size_of(inner)
        rows.append((place, statement, placed))
        place = behind
    return rows


def size_of(block):
    """The number of statements in the block, inner ones counted."""
    return len(rows_of(block, 0))


def _rebuilt_rows(rows, standing):
    found = []
    for place, statement, blocks in rows:
        if place in standing:
            found.extend(standing[place])
        elif blocks:
            found.append(statement[:2] + tuple([_rebuilt_rows(part, standing) for part in blocks]))
        else:
            found.append(statement)
    return tuple(found)


def rebuilt(program, standing):
    """The program in which other statements stand for those at some places.

    standing is a dict from each of these places to the tuple of the statements that stand there.
    """
    return (program[0], _rebuilt_rows(placed_block(program[1], 0), standing))


def each_statement(program):
    """Yields (place, depth, statement) for each statement of the program."""
    for place, (depth, statement) in enumerate(rows_of(program[1], 0)):
        yield (place, depth, statement)


def statement_at(program, place):
    """The statement at this place; raises NoPlace(place) if there is none."""
    rows = rows_of(program[1], 0)
    if not is_integer(place) or not 0 <= place < len(rows):
        raise NoPlace(place)
    return rows[place][1]


def _block_weight(block):
    total = 0
    for statement in block:
        inner = sum([_block_weight(part) for part in blocks_of(statement)])
        times = statement[1] if statement[0] == "repeat" else 1
        total = total + 1 + times * inner
    return total


def weight(program):
    """The weight of the program's block."""
    return _block_weight(program[1])


def wishes_of(program):
    """The ascending tuple of the words in the program's wish statements."""
    words = [statement[2] for _, _, statement in each_statement(program) if statement[0] == "wish"]
    return tuple(sorted(set(words)))


def _places_with(program, word):
    return tuple([place for place, _, statement in each_statement(program) if statement[0] == word])


def make_places(program):
    """The ascending tuple of the places of the program's make statements."""
    return _places_with(program, "make")


def weak_places(program):
    """The ascending tuple of the places of the program's weak statements."""
    return _places_with(program, "weak")


def _is_pair(value):
    return isinstance(value, tuple) and len(value) == 2 and is_givens(value[0]) and isinstance(value[1], tuple)


def _first_wrong(givens, block):
    """The error of the first item of the blocks that lies too deep or is no statement, or None."""
    left = [(0, item) for item in block]
    place = 0
    while left:
        depth, item = left.pop(0)
        if depth > MAX_NEST:
            return (place, "nest")
        if not is_statement(item, givens):
            return (place, "statement")
        inner = [(depth + 1, row) for part in blocks_of(item) for row in part]
        left = inner + left
        place = place + 1
    return None


def _first_bound(program):
    """The error of the first bound that the program does not keep, or None."""
    if size_of(program[1]) > MAX_PLACES:
        return (None, "places")
    if weight(program) > MAX_WEIGHT:
        return (None, "weight")
    if len(wishes_of(program)) > MAX_WISHES:
        return (None, "wishes")
    return None


def program_error(value):
    """None for a program, otherwise a tuple of a place, or None, and a word that tells what is wrong."""
    if not _is_pair(value):
        return (None, "program")
    wrong = _first_wrong(value[0], value[1])
    if wrong is not None:
        return wrong
    return _first_bound(value)
