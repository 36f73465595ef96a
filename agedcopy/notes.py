"""Notes that take the place of a log: which paths of copies there are, and where each of them has come.

A path is the ages of one mark. All its copies have come to one place. A row tells the paths of one state as pairs
(mark, place), the one with the youngest last age first: so the first one at a place is the one that is handed on.
"""

from agedcopy.errors import BadCopy, Refused
from agedcopy.kinds import is_below
from agedcopy.machines import check_deed, check_log, check_starts, check_state, image, state_after


def kept_row(row, state):
    """A state's row when one more copy of it is kept: its path comes first."""
    for at, (_, place) in enumerate(row):
        if place == state:
            return (row[at],) + row[:at] + row[at + 1:]
    return ((len(row), state),) + row


def kept_rows(rows, possible):
    """The rows when one more copy of each possible state is kept."""
    return tuple([kept_row(row, state) if state in possible else row for state, row in enumerate(rows)])


def first_rows(machine, starts):
    """The rows ahead of all deeds."""
    return kept_rows([()] * machine.states, starts)


def led_rows(table, rows):
    """The rows behind a deed, before copies are kept there."""
    return [tuple([(mark, table[place]) for mark, place in row]) for row in rows]


def led_note(table, possible, rows):
    """What states are possible behind a deed, and the rows."""
    later = image(table, possible)
    return later, kept_rows(led_rows(table, rows), later)


class LogNote:
    """Goes along with a log and does not keep it, but tells of copies as the log would."""

    def __init__(self, machine, *, starts=None):
        self.possible = check_starts(machine, starts)
        self.machine = machine
        self.age = 0
        self.rows = first_rows(machine, self.possible)

    def __eq__(self, other):
        return (isinstance(other, LogNote) and self.machine == other.machine and self.possible == other.possible
                and self.rows == other.rows)

    def put(self, deed):
        """A deed is done; returns the age."""
        check_deed(self.machine, deed)
        self.possible, self.rows = led_note(self.machine.tables[deed], self.possible, self.rows)
        self.age += 1
        return self.age

    def mark(self, state):
        """The mark that a copy of a state gets which is kept now."""
        check_state(self.machine, state)
        if state not in self.possible:
            raise Refused(state)
        return self.rows[state][0][0]

    def read(self, state, mark, later=()):
        """Where a copy of a state with a mark has come behind some later deeds more."""
        check_state(self.machine, state)
        row = self.rows[state]
        # The marks of a row are the numbers below its length.
        if not is_below(mark, len(row)):
            raise BadCopy(mark)
        places = [place for told, place in row if told == mark]
        return state_after(self.machine, places[0], later)


def note_of(machine, log, *, starts=None):
    """The note of a whole log."""
    log = check_log(machine, log)
    note = LogNote(machine, starts=starts)
    for deed in log:
        note.put(deed)
    return note
