"""Two copies of one run, the second one kept a told number of deeds, the gap, behind the first one."""

from agedcopy.errors import Refused
from agedcopy.kinds import is_below, is_sequence_of
from agedcopy.logs import trail
from agedcopy.machines import check_log, check_starts, check_state, log_fault
from agedcopy.walks import first_walks, log_to, things_to

MOST_GAP = 12


def check_gap(value):
    """Raises Refused for any value that is no number from 0 to 12."""
    if not is_below(value, MOST_GAP + 1):
        raise Refused(value)


def gap_shown(machine, log, one, other, gap, starts):
    """By run of a log the ages at which it shows one, and other a gap later, once all arguments have been looked at."""
    log = check_log(machine, log)
    check_state(machine, one)
    check_state(machine, other)
    check_gap(gap)
    runs = [trail(machine, start, log) for start in check_starts(machine, starts)]
    return [(run, [age for age in range(len(run) - gap) if run[age] == one and run[age + gap] == other])
            for run in runs]


def gap_ages(machine, log, one, other, gap, *, starts=None):
    """The ascending ages at which some run shows one, and other a gap later."""
    shown = gap_shown(machine, log, one, other, gap, starts)
    return tuple(sorted(set([age for _, ages in shown for age in ages])))


def gap_ends(machine, log, one, other, gap, *, starts=None):
    """The ascending states in which runs end that show one, and other a gap later."""
    shown = gap_shown(machine, log, one, other, gap, starts)
    return tuple(sorted(set([run[-1] for run, ages in shown if ages != []])))


def ways_on(copies, state, left):
    """What may be left to a run that shows a state: one more than the deeds until the second copy, 0 once it is kept.

    Ahead of the first copy it is two more than the gap. `copies` tells one, other and the gap.
    """
    one, other, gap = copies
    ways = [left]
    if left == gap + 2 and state == one:
        ways.append(gap + 1)
    if ways[-1] != 1:
        return ways
    # The second copy is to be kept now.
    return ways[:-1] + [0] if state == other else ways[:-1]


def left_behind(copies, left):
    """What is left behind a deed, before the next state is looked at."""
    return left - 1 if 0 < left < copies[2] + 2 else left


def two_ways(copies, first, first_left, second, second_left):
    """The (copies, state, what is left, state, what is left) that may be, told two states and what was left."""
    return [(copies, first, left, second, also) for left in ways_on(copies, first, first_left)
            for also in ways_on(copies, second, second_left)]


def gap_steps(machine, told):
    """By deed how two runs go on; runs that come to one state stay together and are left out."""
    copies, first, first_left, second, second_left = told
    found = []
    for deed, table in enumerate(machine.tables):
        if table[first] != table[second]:
            for later in two_ways(copies, table[first], left_behind(copies, first_left),
                                  table[second], left_behind(copies, second_left)):
                found.append((deed, later))
    return found


def first_gap(machine, gap):
    """The things along a first walk of two runs with equal copies that end unlike, with its log; None if none does."""
    states = range(machine.states)
    firsts = []
    for copies in [(one, other, gap) for one in states for other in states if gap > 0 or one == other]:
        for first in states:
            for second in range(first):
                firsts.extend(two_ways(copies, first, gap + 2, second, gap + 2))
    came = first_walks(firsts, lambda told: gap_steps(machine, told))
    for told in list(came):
        if told[2] == 0 and told[4] == 0:
            return (log_to(came, told), things_to(came, told))
    return None


def gap_paper(machine, gap):
    """None if two copies with a gap always tell the state, else the first log for which they do not, and two runs."""
    check_gap(gap)
    found = first_gap(machine, gap)
    if found is None:
        return None
    log, things = found
    _, first, _, second, _ = things[0]
    age = len([told for told in things if told[2] == gap + 2])
    later = len([told for told in things if told[4] == gap + 2])
    return ("gap", log, (first, age), (second, later))


def copies_of(machine, log, gap, value):
    """The copies and the last state of a run that any value tells as (start, age of the first copy); else None."""
    if not is_sequence_of(value, 2) or not is_below(value[0], machine.states):
        return None
    run = trail(machine, value[0], log)
    if not is_below(value[1], len(run) - gap):
        return None
    return (run[value[1]], run[value[1] + gap], run[-1])


def gap_holds(machine, gap, value):
    """Whether any value tells a log and two runs with equal copies that end unlike."""
    check_gap(gap)
    if not is_sequence_of(value, 4) or value[0] != "gap" or log_fault(machine, value[1]) is not None:
        return False
    first = copies_of(machine, value[1], gap, value[2])
    second = copies_of(machine, value[1], gap, value[3])
    return first is not None and second is not None and first[:2] == second[:2] and first[2] != second[2]


def told_gaps(machine, most):
    """The ascending gaps to `most` with which two copies always tell the state."""
    check_gap(most)
    return tuple([gap for gap in range(most + 1) if first_gap(machine, gap) is None])
