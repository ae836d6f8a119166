"""Stories: what runs do to their cells, and what answers tell of these."""

from maybegone.errors import Clash, NoQuestion
from maybegone.outlines import outline_of, questions_of, told_state
from maybegone.steps import Grounds, is_clash, row_fits
from maybegone.windows import Windows


def cells_at(story, moment):
    """The number of the cells at the moment."""
    return len(outline_of(story[:moment]).born)


def reached_at(story, moment):
    """The ascending tuple of the cells that are reached at the moment."""
    return tuple(sorted(outline_of(story[:moment]).reached_cells(moment)))


def comers(story, moment, cell):
    """The ascending tuple of the cells that come to the cell at the moment."""
    return tuple(sorted(outline_of(story[:moment]).coming_cells(cell, moment)))


def steps_hold(story, answers, value):
    """The word "clash" for steps that clash, "hold" for other steps, None for what is no steps."""
    if not isinstance(value, tuple):
        return None
    grounds = Grounds(story, answers)
    for number in range(len(value)):
        if not row_fits(grounds, value, number):
            return None
    return "clash" if is_clash(value) else "hold"


class Facts:
    """What is known of the cells of a story by the answers to its questions."""

    def __init__(self, story, answers=()):
        self.story = story
        self.told = ()
        self._questions = questions_of(story)
        self._windows = Windows(outline_of(story))
        self._windows.settle(len(story) - 1)
        for answer in answers:
            self.tell(answer)

    def __len__(self):
        return len(self._questions[len(self.told):])

    def tell(self, answer):
        """Answers the next question and returns the number of answers told."""
        number = len(self.told)
        if number >= len(self._questions):
            raise NoQuestion()
        cell, moment = self._questions[number]
        state = told_state(answer)
        why = ("asked", number)
        if self.fate(cell, moment) not in ("open", state):
            raise Clash(self.reasons(cell, moment) + ((cell, moment, state, why),))
        self._windows.force(cell, moment, state, why)
        self.told = self.told + (answer,)
        return len(self.told)

    def twin(self):
        """Another Facts with the same story and answers."""
        other = Facts(())
        other.story = self.story
        other.told = self.told
        other._questions = self._questions
        other._windows = self._windows.twin_windows()
        return other

    def fate(self, cell, moment):
        """What the cell is at the moment whenever the answers are right, "gone" or "there", or "open"."""
        return self._windows.fate_at(cell, moment)

    def reasons(self, cell, moment):
        """Steps that show the fate of the cell at the moment, or None if it is open."""
        state = self.fate(cell, moment)
        if state == "open":
            return None
        return self._windows.steps_to(cell, moment, state)

    def window(self, cell):
        """The first moment at which the cell can be gone, and the first one at which it must be."""
        first = self._windows.last_there(cell) + 1
        return (self._own_moment(first), self._own_moment(self._windows.first_gone(cell)))

    def _own_moment(self, moment):
        """The moment, or None if the story has no such one."""
        return moment if moment is not None and moment < len(self.story) else None
