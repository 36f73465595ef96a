"""Whether copies of a machine need marks at all."""

from agedcopy.ages import are_parted
from agedcopy.kinds import is_ascending, is_below, is_sequence_of
from agedcopy.machines import check_starts, done, log_fault
from agedcopy.walks import first_walks, log_to, things_to


def held_pair(one, other):
    """Two runs of one log, of which the state of the first one is copied now."""
    return (one, one, other)


def run_steps(machine, told):
    """By deed how two runs go on, and, if no copy was kept of the first one yet, how with one that is kept then."""
    held, one, other = told
    found = []
    for deed, table in enumerate(machine.tables):
        # Runs that have come to one state stay together: then they part nothing.
        if table[one] != table[other]:
            found.append((deed, (held, table[one], table[other])))
            if held is None:
                found.append((deed, held_pair(table[one], table[other])))
    return found


def first_runs(starts):
    """Two runs with unlike starts each, without a copy and with one."""
    pairs = [(one, other) for one in starts for other in starts if one != other]
    return [held_pair(one, other) for one, other in pairs] + [(None, one, other) for one, other in pairs]


def one_mark_paper(machine, *, starts=None):
    """That no two ages are ever parted, or a state and two ages of a shortest log that are."""
    starts = check_starts(machine, starts)
    came = first_walks(first_runs(starts), lambda told: run_steps(machine, told))
    for runs in list(came):
        held, _, other = runs
        # The other run shows the copy's state again, and so its own run is elsewhere.
        if held == other:
            log = log_to(came, runs)
            age = [earlier[0] for earlier in things_to(came, runs)].index(held)
            return ("two", held, log, (age, len(log)))
    return ("one",)


def is_one_mark(machine, *, starts=None):
    """Whether one mark is enough for the copies of each state."""
    return one_mark_paper(machine, starts=starts) == ("one",)


def parted_holds(machine, value, *, starts=None):
    """Whether any value tells a state, a log and two of its ages that are parted for the state."""
    starts = check_starts(machine, starts)
    if not is_sequence_of(value, 4) or value[0] != "two" or not is_below(value[1], machine.states):
        return False
    _, state, log, ages = value
    if log_fault(machine, log) is not None or not is_sequence_of(ages, 2) or not is_ascending(ages, len(log) + 1):
        return False
    for age in ages:
        led = done(machine, log[:age])
        if state not in [led[start] for start in starts]:
            return False
    return are_parted(machine, log, ages[0], ages[1], state)
