"""Papers: what shows that a program is sure, or that it is not, so that it can be checked without a search."""

from maybegone.bounds import MAX_ANSWERS
from maybegone.errors import TooMany
from maybegone.kinds import is_ascending, is_bits, is_inputs, is_pair, is_plan
from maybegone.leads import led_run
from maybegone.outlines import told_state
from maybegone.runs import run
from maybegone.searches import SearchMachine, all_ways
from maybegone.stories import steps_hold
from maybegone.verdicts import is_noticed, noticed
from maybegone.ways import each_inputs


class BanMachine(SearchMachine):
    """A machine that is led by a whole record, and shows which other answers its questions cannot have."""

    def __init__(self, inputs, led):
        SearchMachine.__init__(self, inputs, led, ())
        # For the beginning of each ban its steps.
        self.bans = {}

    def next_answer(self, cell):
        """The answer to the question that has just been asked about this cell."""
        # The steps must rest on nothing but the answers ahead of this one.
        self.windows.settle(self.time)
        state = self.windows.fate_at(cell, self.time)
        if state != "open":
            self._ban(cell, state)
        return super().next_answer(cell)

    def _ban(self, cell, state):
        other = 0 if state == "gone" else 1
        asked = (cell, self.time, told_state(other), ("asked", len(self.record)))
        self.bans[tuple(self.record) + (other,)] = self.windows.steps_to(cell, self.time, state) + (asked,)


def _bans_of(program, inputs, records):
    """The bans of the table that has all these records."""
    found = {}
    for record in records:
        machine = BanMachine(inputs, record)
        machine.execute(program)
        found.update(machine.bans)
    return tuple([(beginning, found[beginning]) for beginning in sorted(found)])


def table_of(program, inputs):
    """A table of the program on these inputs that holds."""
    rows = [(record, plan) for record, _, _, plan in all_ways(program, inputs, ())]
    records = [record for record, _ in rows]
    if sum([len(record) for record in records]) > MAX_ANSWERS:
        raise TooMany()
    return (tuple(rows), _bans_of(program, inputs, records))


def _has_keys(value):
    """Tells whether the value is a tuple of pairs, the first items of which are bits in ascending order."""
    if not isinstance(value, tuple) or not all([is_pair(item) and is_bits(item[0]) for item in value]):
        return False
    return is_ascending([key for key, _ in value])


def _row_holds(program, inputs, record, plan):
    return is_plan(plan) and run(program, inputs, plan)[2] == record


def _ban_holds(program, inputs, beginning, steps):
    _, end, _, story = led_run(program, inputs, beginning[:-1])
    return end is not None and end[0] == "question" and steps_hold(story, beginning, steps) == "clash"


def _beginnings(record):
    """The beginnings of the record, itself included."""
    return [record[:many] for many in range(len(record) + 1)]


def _turnings(record):
    """The turnings of the record."""
    return [record[:at] + (1 - record[at],) for at in range(len(record))]


def _is_closed(records, banned):
    """Tells whether nothing turns off from all of the records but at what is banned, and only this is banned."""
    begun = {beginning: True for record in records for beginning in _beginnings(record)}
    turned = {turning: True for record in records for turning in _turnings(record)}
    if not all([turning in begun or turning in banned for turning in turned]):
        return False
    return all([beginning in turned for beginning in banned])


def _rows_hold(program, inputs, rows):
    if not _has_keys(rows) or not rows:
        return False
    for record, plan in rows:
        if not _row_holds(program, inputs, record, plan):
            return False
    return True


def _bans_hold(program, inputs, bans):
    for beginning, steps in bans:
        if not _ban_holds(program, inputs, beginning, steps):
            return False
    return True


def table_holds(program, inputs, value):
    """Tells whether the value is a table of the program on these inputs that holds."""
    if not is_pair(value):
        return False
    rows, bans = value
    # The records are short if the rows hold, and only then all their turnings
    # are looked at; a ban is looked at only if it begins as a turning does.
    if not _rows_hold(program, inputs, rows) or not _has_keys(bans):
        return False
    if not _is_closed([record for record, _ in rows], {beginning: True for beginning, _ in bans}):
        return False
    return _bans_hold(program, inputs, bans)


def paper_of(program):
    """A paper that shows that the program is sure, or one that shows that it is not."""
    found = noticed(program)
    if found is not None:
        return ("noticed", found[0], found[1])
    return ("sure", tuple([(inputs, table_of(program, inputs)) for inputs in each_inputs(program)]))


def _is_quiet_table(program, inputs, value):
    """Tells whether the value is a table that holds, with rows that all have the same outcome."""
    if not table_holds(program, inputs, value):
        return False
    outcomes = [run(program, inputs, plan)[:2] for _, plan in value[0]]
    return all([outcome == outcomes[0] for outcome in outcomes])


def _are_tables(program, value):
    expected = list(each_inputs(program))
    if not isinstance(value, tuple) or len(value) != len(expected):
        return False
    for inputs, item in zip(expected, value):
        if not is_pair(item) or not is_inputs(item[0], program[0]) or item[0] != inputs:
            return False
        if not _is_quiet_table(program, inputs, item[1]):
            return False
    return True


def paper_holds(program, value):
    """Tells whether the value is a paper of the program that holds."""
    if is_pair(value) and value[0] == "sure":
        return _are_tables(program, value[1])
    if not isinstance(value, tuple) or len(value) != 3 or value[0] != "noticed":
        return False
    _, inputs, plan = value
    return is_inputs(inputs, program[0]) and is_plan(plan) and is_noticed(program, inputs, plan)
