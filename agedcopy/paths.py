"""Which ages of a log meet which: copies of one state, followed along the log.

Copies that come to one place stay together. The youngest of them alone is followed: it meets whatever an older one
there meets from then on.
"""


def carried(table, copies):
    """By place the youngest copy there behind a deed, told those ahead of it; None where there is none."""
    found = [None] * len(table)
    for place, copy in enumerate(copies):
        later = table[place]
        if copy is not None and (found[later] is None or found[later] < copy):
            found[later] = copy
    return found


def earlier_ages(machine, log, state, ages):
    """By age of some possible ones the youngest earlier one of them that is met with it, or None."""
    copies = [None] * machine.states
    found = {}
    for age in range(len(log) + 1):
        if age > 0:
            copies = carried(machine.tables[log[age - 1]], copies)
        if age in ages:
            found[age] = copies[state]
            copies[state] = age
    return found


def later_ages(machine, log, state, ages):
    """By age of some the first later one of them at which what shows a state shows it again, or None."""
    again = [None] * machine.states
    found = {}
    for age in range(len(log), -1, -1):
        if age < len(log):
            again = [again[later] for later in machine.tables[log[age]]]
        if age in ages:
            found[age] = again[state]
            again[state] = age
    return found
