"""What logs do to all states at once: trails, images and resets."""

from agedcopy.kinds import is_ascending, is_sequence_of
from agedcopy.machines import check_log, check_starts, check_state, done, image, log_fault
from agedcopy.walks import first_walks, log_to


def trail(machine, state, log):
    """The states behind 0, 1, .. all deeds of a log."""
    check_state(machine, state)
    states = [state]
    for deed in check_log(machine, log):
        state = machine.tables[deed][state]
        states.append(state)
    return tuple(states)


def states_after(machine, log, *, starts=None):
    """The ascending states to which a log leads the starts."""
    led = done(machine, log)
    return image(led, check_starts(machine, starts))


def parting_state(machine, one, other):
    """The least state that two logs lead to unlike ones, None if there is none."""
    first = done(machine, one)
    second = done(machine, other)
    for state in range(machine.states):
        if first[state] != second[state]:
            return state
    return None


def reached_groups(machine, group):
    """The groups of states to which logs lead a group, those of the first logs first, and where they came from."""
    return first_walks([group], lambda told: [(deed, image(table, told)) for deed, table in enumerate(machine.tables)])


def all_led(machine):
    """Where the groups came from to which logs lead all states, and the first of the least ones."""
    came = reached_groups(machine, tuple(range(machine.states)))
    return came, min(list(came), key=len)


def width(machine):
    """The fewest states to which a log leads all states."""
    _, group = all_led(machine)
    return len(group)


def width_log(machine):
    """The first log that leaves the fewest states."""
    came, group = all_led(machine)
    return log_to(came, group)


def is_stuck(machine, one, other):
    """Whether no log leads two states to one."""
    return min([len(group) for group in reached_groups(machine, (one, other))]) > 1


def stuck_pair(machine):
    """The least two states that no log leads to one, None if there are none."""
    for one in range(machine.states):
        for other in range(one + 1, machine.states):
            if is_stuck(machine, one, other):
                return (one, other)
    return None


def reset_paper(machine):
    """The first log that leads all states to one, or the least two states that none does."""
    pair = stuck_pair(machine)
    if pair is not None:
        return ("pair", pair)
    return ("reset", width_log(machine))


def is_reset(machine, value):
    """Whether any value is a log that leads all states to one."""
    return log_fault(machine, value) is None and len(set(done(machine, value))) == 1


def is_stuck_pair(machine, value):
    """Whether any value is two states, the lesser one first, that no log leads to one."""
    if not is_sequence_of(value, 2) or not is_ascending(value, machine.states):
        return False
    return is_stuck(machine, value[0], value[1])


def reset_holds(machine, value):
    """Whether any value tells a reset, or two states because of which there is none."""
    if not is_sequence_of(value, 2):
        return False
    if value[0] == "reset":
        return is_reset(machine, value[1])
    return value[0] == "pair" and is_stuck_pair(machine, value[1])
