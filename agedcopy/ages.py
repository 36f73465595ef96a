"""The ages at which a state can have been there, and whether two of them are met or parted."""

from agedcopy.kinds import is_below
from agedcopy.machines import check_log, check_starts, check_state, done, state_after
from agedcopy.options import check_age, check_later_age, counted_ages


def first_start(starts, states, state):
    """The first of the starts whose state now is the one asked for, None if there is none."""
    for start, now in zip(starts, states):
        if now == state:
            return start
    return None


def first_starts(machine, log, state, starts):
    """By age the least start that shows a state then, None if none does."""
    states = starts
    found = [first_start(starts, states, state)]
    for deed in log:
        table = machine.tables[deed]
        states = [table[now] for now in states]
        found.append(first_start(starts, states, state))
    return found


def shown_ages(machine, log, state, starts, kept, bound):
    """By possible age that counts, ascending, the least start that shows a state then.

    The log and the state have been checked; the rest is checked here.
    """
    starts = check_starts(machine, starts)
    counted = counted_ages(log, kept, bound)
    first = first_starts(machine, log, state, starts)
    return {age: first[age] for age in counted if first[age] is not None}


def seen_starts(machine, log, age, state, *, starts=None):
    """The ascending starts from which the first `age` deeds lead to a state."""
    log = check_log(machine, log)
    check_age(log, age)
    check_state(machine, state)
    led = done(machine, log[:age])
    return tuple([start for start in check_starts(machine, starts) if led[start] == state])


def is_shown(machine, log, age, state, starts, value):
    """Whether any value is one of the starts from which the first `age` deeds lead to a state."""
    if not is_below(value, machine.states) or value not in starts:
        return False
    return state_after(machine, value, log[:age]) == state


def are_parted(machine, log, one, other, state):
    """Whether the deeds between two ages lead a state elsewhere."""
    return state_after(machine, state, log[one:other]) != state


def possible_ages(machine, log, state, *, starts=None, kept=None, bound=None):
    """The ascending ages that count at which some start shows a state."""
    log = check_log(machine, log)
    check_state(machine, state)
    return tuple(list(shown_ages(machine, log, state, starts, kept, bound)))


def age_word(machine, log, one, other, state, *, starts=None):
    """Whether two possible ages are met or parted, as a word; None if not both are possible."""
    log = check_log(machine, log)
    check_age(log, one)
    check_later_age(log, one, other)
    ahead = seen_starts(machine, log, one, state, starts=starts)
    behind = seen_starts(machine, log, other, state, starts=starts)
    if ahead == () or behind == ():
        return None
    if are_parted(machine, log, one, other, state):
        return "parted"
    return "met"


def parting_starts(machine, log, one, other, state, *, starts=None):
    """For parted ages the least start that shows a state at each of them, else None."""
    if age_word(machine, log, one, other, state, starts=starts) != "parted":
        return None
    ahead = seen_starts(machine, log, one, state, starts=starts)
    behind = seen_starts(machine, log, other, state, starts=starts)
    return (ahead[0], behind[0])


def is_unlike_now(machine, log, one, other, state):
    """Whether the deeds behind two ages lead a state to unlike ones."""
    log = check_log(machine, log)
    check_age(log, one)
    check_later_age(log, one, other)
    return state_after(machine, state, log[one:]) != state_after(machine, state, log[other:])
