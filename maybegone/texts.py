"""Texts of programs."""

from maybegone.errors import BadProgram, BadText
from maybegone.lines import MOST_READ_DIGITS, head_in, integer_in, line_of
from maybegone.programs import program_error

INDENT = "  "


def _block_lines(block, depth):
    """The lines of the block, whose statements lie in so many others."""
    lines = []
    for statement in block:
        lines.append(INDENT * depth + line_of(statement))
        if statement[0] in ("if", "repeat"):
            lines.extend(_block_lines(statement[2], depth + 1))
            if not statement[2]:
                lines.append(INDENT * (depth + 1) + "pass")
        if statement[0] == "if" and statement[3]:
            lines.append(INDENT * depth + "else")
            lines.extend(_block_lines(statement[3], depth + 1))
    return lines


def program_text(program):
    """The text of the program."""
    lines = [f"givens {program[0]}"] + _block_lines(program[1], 0)
    return "\n".join(lines)


class OpenBlock:
    """A block whose lines are being read.

    head is what is known of the statement in which the block lies, up to this block; it is ()
    for the block of the program.
    """

    def __init__(self, head):
        self.head = head
        self.rows = []
        self.passed = False

    def lacks_line(self):
        """Tells whether a line of the block must follow."""
        return self.head != () and not self.rows and not self.passed

    def may_pass(self):
        """Tells whether the block may be empty, as all may but those behind an else."""
        return len(self.head) == 2

    def may_have_else(self):
        """Tells whether an else may stand behind the block."""
        return len(self.head) == 2 and self.head[0] == "if"

    def block(self):
        """The block."""
        return tuple(self.rows)

    def statement(self):
        """The statement in which the block lies, if nothing else follows in it."""
        if self.may_have_else():
            return self.head + (self.block(), ())
        return self.head + (self.block(),)


class Reader:
    """Reads the lines of a block, one behind the other."""

    def __init__(self):
        self.opened = [OpenBlock(())]

    def lacks_line(self):
        """Tells whether another line must follow."""
        return self.opened[-1].lacks_line()

    def takes(self, line):
        """Takes in the next line; returns False if it cannot stand here."""
        told = line.lstrip(" ")
        spaces = len(line) - len(told)
        depth = spaces // len(INDENT)
        if spaces != depth * len(INDENT):
            return False
        if told == "pass":
            return self._takes_pass(depth)
        if told == "else":
            return self._takes_else(depth)
        return self._takes_head(head_in(told), depth)

    def finish(self):
        """Closes all blocks and returns that of the program."""
        self._close_to(0)
        return self.opened[0].block()

    def _close_to(self, depth):
        """Closes all blocks whose statements lie in more than so many others."""
        while len(self.opened) > depth + 1:
            statement = self.opened.pop().statement()
            self.opened[-1].rows.append(statement)

    def _is_deep(self, depth):
        """Tells whether a block is open whose statements lie in so many others."""
        return depth < len(self.opened)

    def _takes_pass(self, depth):
        inner = self.opened[-1]
        if depth != len(self.opened) - 1 or not inner.lacks_line() or not inner.may_pass():
            return False
        inner.passed = True
        return True

    def _takes_else(self, depth):
        if self.lacks_line() or not self._is_deep(depth + 1) or not self.opened[depth + 1].may_have_else():
            return False
        self._close_to(depth + 1)
        yes = self.opened.pop()
        self.opened.append(OpenBlock(yes.head + (yes.block(),)))
        return True

    def _takes_head(self, head, depth):
        if head is None or not self._is_deep(depth) or self.opened[depth].passed:
            return False
        if self.lacks_line() and depth != len(self.opened) - 1:
            return False
        self._close_to(depth)
        if head[0] in ("if", "repeat"):
            self.opened.append(OpenBlock(head))
        else:
            self.opened[-1].rows.append(head)
        return True


def _givens_in(line):
    """The number of givens that the first line tells, or None."""
    words = line.split(" ")
    if len(words) != 2 or words[0] != "givens":
        return None
    return integer_in(words[1], MOST_READ_DIGITS)


def parse_program(value):
    """The program whose text the value is."""
    if not isinstance(value, str):
        raise BadText(None)
    lines = value.split("\n")
    givens = _givens_in(lines[0])
    if givens is None:
        raise BadText(0)
    reader = Reader()
    for number in range(1, len(lines)):
        if not reader.takes(lines[number]):
            raise BadText(number)
    if reader.lacks_line():
        raise BadText(len(lines))
    program = (givens, reader.finish())
    error = program_error(program)
    if error is not None:
        raise BadProgram(error)
    return program
