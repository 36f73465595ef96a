"""How much of a log's end is enough for copies of told ages."""

from agedcopy.errors import BadCopy
from agedcopy.kinds import is_below, is_sequence, is_sequence_of
from agedcopy.machines import check_log, check_state
from agedcopy.options import check_age


def ends_by_age(machine, log):
    """By age, then by state, where the deeds from there on lead the state."""
    ends = tuple(range(machine.states))
    rows = [ends]
    for deed in reversed(log):
        ends = tuple([ends[later] for later in machine.tables[deed]])
        rows.append(ends)
    return rows[::-1]


def latest_place(ends, state, age):
    """The latest age from which on the deeds lead a state to what the copy of some age comes to."""
    place = len(ends) - 1
    while ends[place][state] != ends[age][state]:
        place -= 1
    return place


def return_ages(machine, log, state, age):
    """The ascending ages to which the deeds behind an age lead a state back to itself, this age too."""
    log = check_log(machine, log)
    check_state(machine, state)
    check_age(log, age)
    found = [age]
    now = state
    for at in range(age, len(log)):
        now = machine.tables[log[at]][now]
        if now == state:
            found.append(at + 1)
    return tuple(found)


def tail_place(machine, log, state, age):
    """The latest age from which on the log is enough for a copy."""
    log = check_log(machine, log)
    check_state(machine, state)
    check_age(log, age)
    return latest_place(ends_by_age(machine, log), state, age)


def check_copies(machine, log, value):
    """Raises BadCopy for any value that is no sequence of pairs of a state and an age."""
    if not is_sequence(value):
        raise BadCopy(value)
    for copy in value:
        if not is_sequence_of(copy, 2):
            raise BadCopy(value)
        if not is_below(copy[0], machine.states) or not is_below(copy[1], len(log) + 1):
            raise BadCopy(value)


def needed_place(machine, log, copies):
    """The least of these ages for some copies, the log's end for none."""
    log = check_log(machine, log)
    check_copies(machine, log, copies)
    ends = ends_by_age(machine, log)
    return min([latest_place(ends, state, age) for state, age in copies], default=len(log))
