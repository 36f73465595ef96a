"""The forest of met ages, its lowest ages, and the papers that tell them."""

from agedcopy.ages import is_shown, shown_ages
from agedcopy.kinds import is_ascending, is_sequence_of
from agedcopy.machines import check_log, check_starts, check_state
from agedcopy.options import check_age, check_kept, check_told_bound
from agedcopy.paths import earlier_ages, later_ages


def next_age(machine, log, age, state, *, kept=None):
    """The first kept age above `age` at which a state that is there at `age` is there again, or None."""
    log = check_log(machine, log)
    check_age(log, age)
    check_state(machine, state)
    now = state
    led = {}
    for later in range(age, len(log)):
        now = machine.tables[log[later]][now]
        led[later + 1] = now
    for later in check_kept(log, kept):
        if later > age and led[later] == state:
            return later
    return None


def age_forest(machine, log, state, *, starts=None, kept=None, bound=None):
    """By possible age that counts the age with its next one, or None."""
    log = check_log(machine, log)
    check_state(machine, state)
    shown = shown_ages(machine, log, state, starts, kept, bound)
    later = later_ages(machine, log, state, shown)
    return tuple([(age, later[age]) for age in shown])


def lowest_shown(machine, log, state, shown):
    """Of some possible ages those that are met with no earlier one of them."""
    earlier = earlier_ages(machine, log, state, shown)
    return tuple([age for age in shown if earlier[age] is None])


def lowest_ages(machine, log, state, *, starts=None, kept=None, bound=None):
    """Of the possible ages that count those that are met with no earlier one that counts."""
    log = check_log(machine, log)
    check_state(machine, state)
    return lowest_shown(machine, log, state, shown_ages(machine, log, state, starts, kept, bound))


def least_marks(machine, log, state, *, starts=None, kept=None, bound=None):
    """How many marks the copies of a state need."""
    return len(lowest_ages(machine, log, state, starts=starts, kept=kept, bound=bound))


def window_numbers(machine, log, state, width, *, starts=None, kept=None):
    """By moment how many marks are needed if the log ends then and the last `width` ages count."""
    log = check_log(machine, log)
    check_state(machine, state)
    check_told_bound(width)
    shown = shown_ages(machine, log, state, starts, kept, None)
    changes = [0] * (len(log) + 2)
    for age, earlier in earlier_ages(machine, log, state, shown).items():
        # It is a lowest one from when the earlier one counts no more until it counts no more itself.
        first = age if earlier is None else max(age, earlier + width)
        behind = age + width
        changes[min(first, len(log) + 1)] += 1
        changes[min(behind, len(log) + 1)] -= 1
    numbers = []
    number = 0
    for change in changes[:-1]:
        number += change
        numbers.append(number)
    return tuple(numbers)


def lot_paper(machine, log, state, *, starts=None, kept=None, bound=None):
    """The lowest ages, each with the least start that shows the state then."""
    log = check_log(machine, log)
    check_state(machine, state)
    shown = shown_ages(machine, log, state, starts, kept, bound)
    ages = lowest_shown(machine, log, state, shown)
    return ("lot", ages, tuple([shown[age] for age in ages]))


def is_lot(machine, log, state, shown, ages):
    """Whether any value is a sequence of ascending ages among those shown, all of them parted."""
    if not is_ascending(ages, len(log) + 1):
        return False
    for age in ages:
        if age not in shown:
            return False
    return len(lowest_shown(machine, log, state, {age: True for age in ages})) == len(ages)


def lot_holds(machine, log, state, value, *, starts=None, kept=None, bound=None):
    """Whether any value tells parted ages, each with some start that shows the state then."""
    log = check_log(machine, log)
    check_state(machine, state)
    shown = shown_ages(machine, log, state, starts, kept, bound)
    if not is_sequence_of(value, 3) or value[0] != "lot":
        return False
    ages = value[1]
    if not is_lot(machine, log, state, shown, ages) or not is_sequence_of(value[2], len(ages)):
        return False
    told = check_starts(machine, starts)
    for age, start in zip(ages, value[2]):
        if not is_shown(machine, log, age, state, told, start):
            return False
    return True
