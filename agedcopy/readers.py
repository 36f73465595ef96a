"""What found copies tell by their marks, and whether a marking is safe."""

from agedcopy.ages import are_parted, is_shown, shown_ages
from agedcopy.errors import Refused
from agedcopy.kinds import is_below, is_integer, is_number, is_sequence_of
from agedcopy.machines import check_log, check_starts, check_state, state_after
from agedcopy.marks import marks_by_age
from agedcopy.options import check_bound, counted_ages, is_within


def read_age(machine, log, state, mark, *, starts=None, kept=None, bound=None):
    """The youngest age that counts at which a copy of a state has a mark."""
    log = check_log(machine, log)
    check_state(machine, state)
    shown = shown_ages(machine, log, state, starts, kept, None)
    check_bound(bound)
    marks = marks_by_age(machine, log, state, shown, bound)
    if is_integer(mark):
        for age in range(len(log), -1, -1):
            if marks[age] == mark and is_within(age, len(log), bound):
                return age
    raise Refused(mark)


def read_copy(machine, log, state, mark, *, starts=None, kept=None, bound=None):
    """The state now, told by a copy of a state and its mark."""
    age = read_age(machine, log, state, mark, starts=starts, kept=kept, bound=bound)
    return state_after(machine, state, log[age:])


def check_marking(machine, log, value):
    """Raises Refused for any value that does not tell, by age and state, a number."""
    if not is_sequence_of(value, len(log) + 1):
        raise Refused(value)
    for row in value:
        if not is_sequence_of(row, machine.states) or not all([is_number(mark) for mark in row]):
            raise Refused(value)


def ages_by_mark(marking, state, ages):
    """By mark the ages at which the copies of a state have it; the mark of the first age first."""
    found = {}
    for age in ages:
        found.setdefault(marking[age][state], []).append(age)
    return found


def first_parted(machine, log, state, ages):
    """The first of some ages that is parted from the first one of them, None if there is none."""
    now = state
    for age, later in zip(ages, ages[1:]):
        for deed in log[age:later]:
            now = machine.tables[deed][now]
        if now != state:
            return later
    return None


def unsafe_ages(machine, log, marking, state, ages):
    """The least two parted ages of one mark among some possible ones, None if there are none."""
    # Two ages that are both met with an earlier one are met: so it is enough to look at each mark's first age.
    for same in list(ages_by_mark(marking, state, ages).values()):
        later = first_parted(machine, log, state, same)
        if later is not None:
            return (same[0], later)
    return None


def unsafe_paper(machine, log, marking, *, starts=None, kept=None, bound=None):
    """None for a safe marking, else the least state and ages for which it is not, with the least starts."""
    log = check_log(machine, log)
    check_marking(machine, log, marking)
    for state in range(machine.states):
        shown = shown_ages(machine, log, state, starts, kept, bound)
        ages = unsafe_ages(machine, log, marking, state, list(shown))
        if ages is not None:
            one, other = ages
            return ("unsafe", state, one, other, shown[one], shown[other])
    return None


def is_safe_marking(machine, log, marking, *, starts=None, kept=None, bound=None):
    """Whether no two parted ages of one state that count have one mark."""
    return unsafe_paper(machine, log, marking, starts=starts, kept=kept, bound=bound) is None


def is_counted(value, counted, log):
    """Whether any value is one of the ages that count."""
    return is_below(value, len(log) + 1) and value in counted


def unsafe_holds(machine, log, marking, value, *, starts=None, kept=None, bound=None):
    """Whether any value tells a state, two parted ages of one mark and starts that show the state at them."""
    log = check_log(machine, log)
    check_marking(machine, log, marking)
    told = check_starts(machine, starts)
    counted = counted_ages(log, kept, bound)
    if not is_sequence_of(value, 6) or value[0] != "unsafe" or not is_below(value[1], machine.states):
        return False
    _, state, one, other, start, later = value
    if not is_counted(one, counted, log) or not is_counted(other, counted, log) or one >= other:
        return False
    if not is_shown(machine, log, one, state, told, start) or not is_shown(machine, log, other, state, told, later):
        return False
    return marking[one][state] == marking[other][state] and are_parted(machine, log, one, other, state)
