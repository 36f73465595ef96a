"""Two copies of one run, of unknown ages: what they tell, which one is newer, and which one is of now.

Along a run it is counted how much of what is asked for it has shown: bits, 3 once it has shown both copies as asked.
"""

from agedcopy.errors import Refused
from agedcopy.kinds import is_below, is_sequence_of
from agedcopy.logs import trail
from agedcopy.machines import check_log, check_starts, check_state, log_fault
from agedcopy.walks import first_walks, log_to, things_to

BOTH = 3


def check_two(machine, one, other):
    """Raises NoState for any value that is no state, Refused for the same state twice."""
    check_state(machine, one)
    check_state(machine, other)
    if one == other:
        raise Refused(other)


def checked_runs(machine, log, one, other, starts):
    """The runs of a log, by start, once all arguments have been looked at."""
    log = check_log(machine, log)
    check_two(machine, one, other)
    return [trail(machine, start, log) for start in check_starts(machine, starts)]


def ages_of(run, state):
    """The ascending ages at which a run shows a state."""
    return [age for age, now in enumerate(run) if now == state]


def is_ahead(run, one, other):
    """Whether a run shows one state ahead of another one."""
    return one in run and other in run[run.index(one):]


def pair_ages(machine, log, one, other, *, starts=None):
    """The ascending (age of one, age of other) at which one and the same run shows them."""
    found = {}
    for run in checked_runs(machine, log, one, other, starts):
        later = ages_of(run, other)
        for age in ages_of(run, one):
            for another in later:
                found[(age, another)] = True
    return tuple(sorted(found))


def pair_ends(machine, log, one, other, *, ordered=False, starts=None):
    """The ascending states in which runs end that show one and other, if `ordered` one ahead of other."""
    found = {}
    for run in checked_runs(machine, log, one, other, starts):
        if is_ahead(run, one, other) or (not ordered and is_ahead(run, other, one)):
            found[run[-1]] = True
    return tuple(sorted(found))


def newer_ways(machine, log, one, other, *, starts=None):
    """Whether some run shows one ahead of other, and whether some run shows other ahead of one."""
    runs = checked_runs(machine, log, one, other, starts)
    return (any([is_ahead(run, one, other) for run in runs]), any([is_ahead(run, other, one) for run in runs]))


def fresh_ways(machine, log, one, other, *, starts=None):
    """Whether a run that shows other ends in one, and whether a run that shows one ends in other."""
    runs = checked_runs(machine, log, one, other, starts)
    return (any([run[-1] == one and other in run for run in runs]),
            any([run[-1] == other and one in run for run in runs]))


def seen(one, other, ordered, state, shown):
    """What a run has shown of two states once it shows a state, too; if `ordered`, one must be shown ahead of other."""
    if state == one:
        return shown | 1
    if state == other and (shown != 0 or not ordered):
        return shown | 2
    return shown


def two_steps(machine, first_seen, second_seen, apart, told):
    """By deed how two runs go on, and what they have shown then; if they must stay apart, only where they do."""
    one, one_shown, other, other_shown = told
    found = []
    for deed, table in enumerate(machine.tables):
        first = table[one]
        second = table[other]
        if first != second or not apart:
            found.append((deed, (first, first_seen(first, one_shown), second, second_seen(second, other_shown))))
    return found


def first_two(machine, first_seen, second_seen, apart):
    """The first log of which two runs show both states as asked, with the two runs; None if there is none."""
    states = range(machine.states)
    firsts = [(one, first_seen(one, 0), other, second_seen(other, 0))
              for one in states for other in states if one != other or not apart]
    came = first_walks(firsts, lambda told: two_steps(machine, first_seen, second_seen, apart, told))
    for told in list(came):
        if told[1] == BOTH and told[3] == BOTH:
            log = log_to(came, told)
            one, _, other, _ = things_to(came, told)[0]
            return (log, trail(machine, one, log), trail(machine, other, log))
    return None


def first_pair(machine, one, other, ordered):
    """As first_two: two runs that show both states, if `ordered` one ahead of other, and end unlike."""
    return first_two(machine, lambda state, shown: seen(one, other, ordered, state, shown),
                     lambda state, shown: seen(one, other, ordered, state, shown), True)


def first_order(machine, one, other):
    """As first_two: the first run shows one ahead of other, the second one other ahead of one."""
    return first_two(machine, lambda state, shown: seen(one, other, True, state, shown),
                     lambda state, shown: seen(other, one, True, state, shown), False)


def first_fresh(machine, one, other):
    """As first_two: the first run shows other and ends in one, the second one shows one and ends in other."""
    # What is to be shown at the end does not count any more behind the next deed.
    return first_two(machine, lambda state, shown: seen(other, one, True, state, shown & 1),
                     lambda state, shown: seen(one, other, True, state, shown & 1), True)


def later_age(run, age, state):
    """The first age, from one on, at which a run shows a state."""
    return age + run[age:].index(state)


def ages_ahead(run, one, other):
    """The first age at which a run shows one, and the first one behind it at which it shows other."""
    age = run.index(one)
    return (age, later_age(run, age, other))


def pair_run(run, one, other, ordered):
    """(start, age of one, age of other) of a run that shows both."""
    if ordered:
        return (run[0],) + ages_ahead(run, one, other)
    return (run[0], run.index(one), run.index(other))


def pair_paper(machine, one, other, *, ordered=False):
    """None if two copies tell the state for all logs, else the first log for which they do not, and two runs."""
    check_two(machine, one, other)
    found = first_pair(machine, one, other, ordered)
    if found is None:
        return None
    log, first, second = found
    return ("pair", log, pair_run(first, one, other, ordered), pair_run(second, one, other, ordered))


def order_paper(machine, one, other):
    """None if it is told for all logs which copy is newer, else the first log for which it is not, and two runs."""
    check_two(machine, one, other)
    found = first_order(machine, one, other)
    if found is None:
        return None
    log, first, second = found
    later, age = ages_ahead(second, other, one)
    return ("order", log, pair_run(first, one, other, True), (second[0], age, later))


def fresh_paper(machine, one, other):
    """None if it is told for all logs which copy is of now, else the first log for which it is not, and two runs."""
    check_two(machine, one, other)
    found = first_fresh(machine, one, other)
    if found is None:
        return None
    log, first, second = found
    return ("fresh", log, (first[0], len(log), first.index(other)), (second[0], second.index(one), len(log)))


def is_run(machine, log, one, other, value):
    """Whether any value tells a start and ages of a log at which its run shows one and other."""
    if not is_sequence_of(value, 3) or not is_below(value[0], machine.states):
        return False
    for age in value[1:]:
        if not is_below(age, len(log) + 1):
            return False
    run = trail(machine, value[0], log)
    return run[value[1]] == one and run[value[2]] == other


def is_pair(machine, log, first, second, ordered):
    """Whether two runs (start, age of one, age of other) end unlike, if `ordered` each showing one ahead of other."""
    if ordered and (first[1] >= first[2] or second[1] >= second[2]):
        return False
    return trail(machine, first[0], log)[-1] != trail(machine, second[0], log)[-1]


def replica_holds(machine, one, other, value, *, ordered=False):
    """Whether any value tells a log and two runs because of which two copies do not tell what is asked."""
    check_two(machine, one, other)
    if not is_sequence_of(value, 4) or log_fault(machine, value[1]) is not None:
        return False
    kind, log, first, second = value
    if not is_run(machine, log, one, other, first) or not is_run(machine, log, one, other, second):
        return False
    if kind == "pair":
        return is_pair(machine, log, first, second, ordered)
    if kind == "order":
        return first[1] < first[2] and second[1] > second[2]
    return kind == "fresh" and first[1] == len(log) and second[2] == len(log)


def told_pairs(machine, *, ordered=False):
    """The ascending pairs of unlike states that tell the state for all logs; if not ordered, the lesser one first."""
    states = range(machine.states)
    pairs = [(one, other) for one in states for other in states if one < other or (ordered and one != other)]
    return tuple([pair for pair in pairs if first_pair(machine, pair[0], pair[1], ordered) is None])


def lesser_first(machine):
    """The ascending pairs of states, the lesser one first."""
    states = range(machine.states)
    return [(one, other) for one in states for other in states if one < other]


def ordered_pairs(machine):
    """The ascending pairs of states, the lesser one first, of which it is told for all logs which copy is newer."""
    return tuple([pair for pair in lesser_first(machine) if first_order(machine, pair[0], pair[1]) is None])


def fresh_pairs(machine):
    """The ascending pairs of states, the lesser one first, of which it is told for all logs which copy is of now."""
    return tuple([pair for pair in lesser_first(machine) if first_fresh(machine, pair[0], pair[1]) is None])
