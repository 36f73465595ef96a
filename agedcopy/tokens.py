"""How many marks the copies of a state need at most, over all logs.

Walk along a log. A start is used as soon as it shows the state while no used one does; where a used one is, others are
not needed. So two lots of states tell all: where starts are, and where used ones are. A lot of states is a number whose
bits, from the least one, tell by state whether it is in. Along any log as many starts are used as marks are needed.
"""

from agedcopy.errors import TooGreat
from agedcopy.forests import lowest_ages
from agedcopy.machines import check_starts, check_state
from agedcopy.options import check_told_bound
from agedcopy.walks import first_walks, log_to

FEW_STATES = 8


def check_few_states(machine):
    """Raises TooGreat for a machine of too many states."""
    if machine.states > FEW_STATES:
        raise TooGreat(FEW_STATES)


def image_by_lot(table):
    """By lot of states the one to which a table leads it."""
    lots = [0]
    for later in table:
        lots = lots + [lot | (1 << later) for lot in lots]
    return lots


def with_use(live, used, number, here):
    """The moment once the state `here` is looked at: a start that is there is used if no used one is."""
    if live & here != 0 and used & here == 0:
        return (live, used | here, number + 1)
    return (live, used, number)


def moment_steps(images, here, moment):
    """By deed the moment that follows one; none where all starts that are left are used ones."""
    live, used, number = moment
    if live == used:
        return []
    return [(deed, with_use(lots[live], lots[used], number, here)) for deed, lots in enumerate(images)]


def first_uses(machine, state, starts):
    """By number, from 1 to the greatest, the first log along which so many starts are used."""
    images = [image_by_lot(table) for table in machine.tables]
    here = 1 << state
    live = sum([1 << start for start in starts])
    came = first_walks([with_use(live, 0, 0, here)], lambda told: moment_steps(images, here, told))
    logs = []
    for moment in list(came):
        if moment[2] > len(logs):
            logs.append(log_to(came, moment))
    return logs


def most_marks(machine, state, *, starts=None):
    """How many marks the copies of a state need at most, over all logs."""
    return len(first_lengths(machine, state, starts=starts))


def all_most(machine, *, starts=None):
    """By state how many marks its copies need at most."""
    starts = check_starts(machine, starts)
    check_few_states(machine)
    return tuple([len(first_uses(machine, state, starts)) for state in range(machine.states)])


def first_log(machine, state, number, *, starts=None):
    """The first log that needs so many marks, and its lowest ages; None if there is none."""
    check_state(machine, state)
    check_told_bound(number)
    starts = check_starts(machine, starts)
    check_few_states(machine)
    logs = first_uses(machine, state, starts)
    if number > len(logs):
        return None
    log = logs[number - 1]
    return (log, lowest_ages(machine, log, state, starts=starts))


def first_lengths(machine, state, *, starts=None):
    """By number, from 1 to the greatest, how many deeds the first log has that needs so many marks."""
    check_state(machine, state)
    starts = check_starts(machine, starts)
    check_few_states(machine)
    return tuple([len(log) for log in first_uses(machine, state, starts)])


def bound_marks(machine, state, bound):
    """How many marks copies of a state, less than `bound` deeds old, need at most if all states may be first."""
    check_state(machine, state)
    check_told_bound(bound)
    return len([length for length in first_lengths(machine, state) if length < bound])
