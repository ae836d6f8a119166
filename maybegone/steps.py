"""Rows of steps: whether each one follows from a story, from answers and from the rows ahead of it."""

from maybegone.kinds import first_word, is_from_to
from maybegone.outlines import outline_of, questions_of, told_state

STATES = ("gone", "there")


class Grounds:
    """A story and answers, on which steps rest."""

    def __init__(self, story, answers):
        self.moments = len(story)
        self.outline = outline_of(story)
        self.questions = questions_of(story)
        self.answers = answers
        self.reached_then = {}

    def is_reached(self, cell, moment):
        """Tells whether the cell is reached at the moment."""
        # Many rows may speak of the same moment.
        if moment not in self.reached_then:
            self.reached_then[moment] = self.outline.reached_cells(moment)
        return cell in self.reached_then[moment]

    def is_cell_at(self, cell, moment):
        """Tells whether these values are a cell and a moment of the story, the cell one at this moment."""
        if not is_from_to(moment, 0, self.moments - 1):
            return False
        return is_from_to(cell, 0, len(self.outline.born) - 1) and self.outline.born[cell] <= moment

    def is_answered(self, number):
        """Tells whether the value is the number of a question that has an answer."""
        return is_from_to(number, 0, min(len(self.answers), len(self.questions)) - 1)

    def told_by(self, number):
        """What the answer to this question tells: (cell, moment, state)."""
        cell, moment = self.questions[number]
        return (cell, moment, told_state(self.answers[number]))


# What follows from an earlier row; both rows say the same state. Each of these
# tells whether a row of the cell and the moment follows from the earlier one.


def _from_held(grounds, earlier, cell, moment):
    return earlier[1] == moment and grounds.outline.holds(cell, earlier[0], moment)


def _from_holder(grounds, earlier, cell, moment):
    return earlier[1] == moment and grounds.outline.holds(earlier[0], cell, moment)


def _from_before(_, earlier, cell, moment):
    return earlier[0] == cell and earlier[1] < moment


def _from_behind(_, earlier, cell, moment):
    return earlier[0] == cell and earlier[1] > moment


STATE_OF = {"holder": "gone", "held": "there", "later": "gone", "earlier": "there"}
FOLLOWING = {"holder": _from_held, "held": _from_holder, "later": _from_before, "earlier": _from_behind}


def _follows(grounds, rows, number):
    """Tells whether this row follows from the earlier one that its why names."""
    cell, moment, state, why = rows[number]
    if state != STATE_OF[why[0]] or len(why) != 2 or not is_from_to(why[1], 0, number - 1):
        return False
    earlier = rows[why[1]]
    check = FOLLOWING[why[0]]
    return earlier[2] == state and check(grounds, earlier, cell, moment)


def _why_fits(grounds, rows, number):
    cell, moment, state, why = rows[number]
    word = first_word(why)
    if word == "asked":
        return len(why) == 2 and grounds.is_answered(why[1]) and grounds.told_by(why[1]) == (cell, moment, state)
    if word == "reached":
        return len(why) == 1 and state == "there" and grounds.is_reached(cell, moment)
    return word in FOLLOWING and _follows(grounds, rows, number)


def row_fits(grounds, rows, number):
    """Tells whether the row of this number, behind earlier ones that fit, is a row of steps."""
    row = rows[number]
    if not isinstance(row, tuple) or len(row) != 4 or row[2] not in STATES:
        return False
    return grounds.is_cell_at(row[0], row[1]) and _why_fits(grounds, rows, number)


def is_clash(steps):
    """Tells whether some row says "gone" and another one "there" of the same cell and moment."""
    said = {}
    for cell, moment, state, _ in steps:
        if said.setdefault((cell, moment), state) != state:
            return True
    return False
