"""Machines of states and deeds, and what logs of deeds do to states."""

from agedcopy.errors import BadLog, BadMachine, NoDeed, NoState, Refused
from agedcopy.kinds import fault_place, is_ascending, is_below, is_sequence

MOST_TABLES = 8
MOST_STATES = 12
MOST_DEEDS = 10000


def is_table(value):
    """Whether a value tells a next state by state."""
    if not is_sequence(value) or not 1 <= len(value) <= MOST_STATES:
        return False
    return fault_place(value, len(value)) is None


def check_tables(value):
    """The tables of a machine as tuples."""
    if not is_sequence(value) or not 1 <= len(value) <= MOST_TABLES:
        raise BadMachine(-1)
    for at, table in enumerate(value):
        if not is_table(table) or len(table) != len(value[0]):
            raise BadMachine(at)
    return tuple([tuple(table) for table in value])


class Machine:
    """By deed a table that tells by state the next one."""

    def __init__(self, tables):
        self.tables = check_tables(tables)
        self.deeds = len(self.tables)
        self.states = len(self.tables[0])

    def __eq__(self, other):
        return isinstance(other, Machine) and self.tables == other.tables


def check_state(machine, value):
    """Raises NoState for any value that is no state."""
    if not is_below(value, machine.states):
        raise NoState(value)


def check_deed(machine, value):
    """Raises NoDeed for any value that is no deed."""
    if not is_below(value, machine.deeds):
        raise NoDeed(value)


def log_fault(machine, value):
    """Where any value is no log: -1 or an index, None if it is one."""
    if not is_sequence(value) or len(value) > MOST_DEEDS:
        return -1
    return fault_place(value, machine.deeds)


def check_log(machine, value):
    """The log as a tuple."""
    at = log_fault(machine, value)
    if at is not None:
        raise BadLog(at)
    return tuple(value)


def check_starts(machine, value):
    """The starts as a tuple; all states for None."""
    if value is None:
        return tuple(range(machine.states))
    if not is_ascending(value, machine.states) or len(value) == 0:
        raise Refused(value)
    return tuple(value)


def step(machine, state, deed):
    """The state to which a deed leads a state."""
    check_state(machine, state)
    check_deed(machine, deed)
    return machine.tables[deed][state]


def state_after(machine, state, log):
    """The state to which a log leads a state."""
    check_state(machine, state)
    for deed in check_log(machine, log):
        state = machine.tables[deed][state]
    return state


def done(machine, log):
    """By state the one to which a log leads it."""
    led = tuple(range(machine.states))
    for deed in check_log(machine, log):
        table = machine.tables[deed]
        led = tuple([table[state] for state in led])
    return led


def image(table, states):
    """The ascending states to which a table leads some states."""
    return tuple(sorted(set([table[state] for state in states])))
