"""Views of a machine, and machines made of others."""

from agedcopy.errors import Refused, TooGreat
from agedcopy.kinds import is_ascending, is_below, is_sequence, is_sequence_of
from agedcopy.machines import MOST_STATES, MOST_TABLES, Machine


def is_grouping(machine, value):
    """Whether any value tells by state a group, the groups numbered by their least states."""
    if not is_sequence_of(value, machine.states):
        return False
    groups = 0
    for group in value:
        if not is_below(group, groups + 1):
            return False
        groups = max(groups, group + 1)
    return True


def unlike_pair(table, grouping):
    """The least two states of one group that a table leads to unlike groups, None if there are none."""
    for one in range(len(grouping)):
        for other in range(one + 1, len(grouping)):
            if grouping[one] == grouping[other] and grouping[table[one]] != grouping[table[other]]:
                return (one, other)
    return None


def first_unlike(machine, grouping):
    """The least deed that leads some states of one group to unlike groups, with the least two, else None."""
    for deed, table in enumerate(machine.tables):
        pair = unlike_pair(table, grouping)
        if pair is not None:
            return (deed, pair)
    return None


def unlike_step(machine, value):
    """None for a view, else the least deed and states because of which a grouping is none."""
    if not is_grouping(machine, value):
        raise Refused(value)
    return first_unlike(machine, value)


def check_view(machine, value):
    """The view as a tuple."""
    if not is_grouping(machine, value) or first_unlike(machine, value) is not None:
        raise Refused(value)
    return tuple(value)


def renumbered(table, states):
    """The next states of some states, told by their places in `states`; `table` tells them by state."""
    return tuple([states.index(table[state]) for state in states])


def viewed_machine(machine, view):
    """The machine whose states are the groups of a view."""
    view = check_view(machine, view)
    least = [view.index(group) for group in range(max(view) + 1)]
    return Machine([tuple([view[table[state]] for state in least]) for table in machine.tables])


def merged(grouping, one, other):
    """The grouping in which the groups of two states are one, the others as before."""
    kept = min(grouping[one], grouping[other])
    gone = max(grouping[one], grouping[other])
    groups = [kept if group == gone else group for group in grouping]
    order = sorted(set(groups))
    return tuple([order.index(group) for group in groups])


def check_pairs(machine, value):
    """Raises Refused for any value that is no sequence of pairs of states."""
    if not is_sequence(value):
        raise Refused(value)
    for pair in value:
        if not is_sequence_of(pair, 2):
            raise Refused(value)
        if not is_below(pair[0], machine.states) or not is_below(pair[1], machine.states):
            raise Refused(value)


def finest_view(machine, pairs):
    """The view of the most groups that puts the states of each pair together."""
    check_pairs(machine, pairs)
    grouping = tuple(range(machine.states))
    for one, other in pairs:
        grouping = merged(grouping, one, other)
    found = first_unlike(machine, grouping)
    while found is not None:
        deed, pair = found
        table = machine.tables[deed]
        grouping = merged(grouping, table[pair[0]], table[pair[1]])
        found = first_unlike(machine, grouping)
    return grouping


def paired_table(first, second):
    """The table of two machines side by side of which one does the first table, the other the second one."""
    return tuple([state * len(second) + later for state in first for later in second])


def check_size(deeds, states):
    """Raises TooGreat if no machine has so many deeds or states."""
    if deeds > MOST_TABLES:
        raise TooGreat(MOST_TABLES)
    if states > MOST_STATES:
        raise TooGreat(MOST_STATES)


def beside_machines(one, other):
    """Two machines side by side, each deed for one of them."""
    check_size(one.deeds + other.deeds, one.states * other.states)
    first = tuple(range(one.states))
    second = tuple(range(other.states))
    tables = [paired_table(table, second) for table in one.tables]
    return Machine(tables + [paired_table(first, table) for table in other.tables])


def together_machines(one, other):
    """Two machines side by side, each deed doing in both what it does there."""
    if one.deeds != other.deeds:
        raise Refused(other)
    check_size(one.deeds, one.states * other.states)
    return Machine([paired_table(first, second) for first, second in zip(one.tables, other.tables)])


def part_machine(machine, states):
    """The machine of some states that no deed leaves, numbered anew in order."""
    if not is_ascending(states, machine.states) or len(states) == 0:
        raise Refused(states)
    for table in machine.tables:
        for state in states:
            if table[state] not in states:
                raise Refused(states)
    return Machine([renumbered(table, states) for table in machine.tables])
