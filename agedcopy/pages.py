"""Pages: states that are kept cell by cell, each cell at an age of its own."""

from agedcopy.errors import Refused
from agedcopy.kinds import fault_place, is_below, is_sequence, is_sequence_of
from agedcopy.logs import trail
from agedcopy.machines import Machine, check_log, check_state

MOST_CELLS = 4
MOST_VALUES = 60


def is_row(value):
    """Whether any value is a sequence of cells' values."""
    return is_sequence(value) and 1 <= len(value) <= MOST_CELLS and fault_place(value, MOST_VALUES) is None


def check_cells(machine, value):
    """The rows of cells by state, as tuples; Refused for any value that tells no such rows."""
    if not is_sequence_of(value, machine.states) or not all([is_row(row) for row in value]):
        raise Refused(value)
    rows = tuple([tuple(row) for row in value])
    if len(set(rows)) < len(rows) or len(set([len(row) for row in rows])) > 1:
        raise Refused(value)
    return rows


class Pages:
    """By state of a machine the values of its cells."""

    def __init__(self, machine, cells):
        self.cells = check_cells(machine, cells)
        self.machine = machine
        self.width = len(self.cells[0])

    def __eq__(self, other):
        return isinstance(other, Pages) and self.machine == other.machine and self.cells == other.cells


def check_cell(pages, value):
    """Raises Refused for any value that is no cell."""
    if not is_below(value, pages.width):
        raise Refused(value)


def cell_value(pages, state, cell):
    """The value of a state's cell."""
    check_state(pages.machine, state)
    check_cell(pages, cell)
    return pages.cells[state][cell]


def value_table(pages, cell, table):
    """By value of a cell, ascending, what a deed makes of it, told the deed's table; None if other cells matter."""
    led = {}
    for row, state in zip(pages.cells, table):
        if led.setdefault(row[cell], pages.cells[state][cell]) != pages.cells[state][cell]:
            return None
    return [led[value] for value in sorted(led)]


def own_deeds(pages):
    """The ascending deeds that make of each cell what hangs on its own value alone."""
    found = []
    for deed, table in enumerate(pages.machine.tables):
        if all([value_table(pages, cell, table) is not None for cell in range(pages.width)]):
            found.append(deed)
    return tuple(found)


def cell_machine(pages, cell):
    """A cell as a machine of its own with its values by state; None if some deed is not own for it."""
    check_cell(pages, cell)
    values = sorted(set([row[cell] for row in pages.cells]))
    tables = []
    for table in pages.machine.tables:
        led = value_table(pages, cell, table)
        if led is None:
            return None
        tables.append([values.index(value) for value in led])
    return (Machine(tables), tuple(values))


def check_kept_cells(pages, log, value):
    """Raises Refused for any value that is no sequence of (cell, age, value)."""
    if not is_sequence(value):
        raise Refused(value)
    for item in value:
        if not is_sequence_of(item, 3):
            raise Refused(value)
        cell, age, worth = item
        if not is_below(cell, pages.width) or not is_below(age, len(log) + 1) or not is_below(worth, MOST_VALUES):
            raise Refused(value)


def torn_states(pages, log, kept):
    """The ascending states to which a log may have led, told the values that cells had at some ages."""
    log = check_log(pages.machine, log)
    check_kept_cells(pages, log, kept)
    found = {}
    for start in range(pages.machine.states):
        run = trail(pages.machine, start, log)
        if all([pages.cells[run[age]][cell] == value for cell, age, value in kept]):
            found[run[-1]] = True
    return tuple(sorted(found))
