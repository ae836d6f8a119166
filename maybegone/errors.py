"""The errors of the package. Each one has its fields as attributes."""


class GoneError(ValueError):
    """The base of the errors below, apart from NoPlace and NoVersion."""


class BadText(GoneError):
    """The text is not that of a program, from this line on."""

    def __init__(self, line):
        self.line = line


class BadProgram(GoneError):
    """This is not a program; error is what program_error returns for it."""

    def __init__(self, error):
        self.error = error


class BadPauses(GoneError):
    """This value is not an ascending tuple of places of the program."""

    def __init__(self, value):
        self.value = value


class BadInputs(GoneError):
    """This value is no inputs of the program."""

    def __init__(self, value):
        self.value = value


class BadPlan(GoneError):
    """This value is not a plan."""

    def __init__(self, value):
        self.value = value


class NoMake(GoneError):
    """The statement at this place is not a make statement."""

    def __init__(self, place):
        self.place = place


class NoWeak(GoneError):
    """The statement at this place is not a weak statement."""

    def __init__(self, place):
        self.place = place


class PauseThere(GoneError):
    """This place is paused already."""

    def __init__(self, place):
        self.place = place


class NoPause(GoneError):
    """This place is not paused."""

    def __init__(self, place):
        self.place = place


class NoPauses(GoneError):
    """No few places are enough, paused, to make the program sure."""


class NoQuestion(GoneError):
    """All questions have answers."""


class TooMany(GoneError):
    """There are too many records, places or answers."""


class Clash(GoneError):
    """No schedule agrees with the answers; the steps show it."""

    def __init__(self, steps):
        self.steps = steps


class Unsure(GoneError):
    """The run on these inputs with this plan is noticed."""

    def __init__(self, inputs, plan):
        self.inputs = inputs
        self.plan = plan


class Busy(GoneError):
    """A watch of the bench is running."""


class TooManyEdits(GoneError):
    """No more edits can stand on the bench."""


class NothingToUndo(GoneError):
    """No edit stands."""


class NothingToRedo(GoneError):
    """No edit was removed that could be put back."""


class BadEdits(GoneError):
    """The edits are not a list or tuple, or are too many."""


class BadEdit(GoneError):
    """The item with this index is not an edit."""

    def __init__(self, index):
        self.index = index


class Rejected(GoneError):
    """The edit with this index raised an error."""

    def __init__(self, index):
        self.index = index


class NoPlace(LookupError):
    """This is not a place of the program."""

    def __init__(self, place):
        self.place = place


class NoVersion(LookupError):
    """This is not a version of the bench."""

    def __init__(self, value):
        self.value = value
