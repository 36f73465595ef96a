"""Moments of a log: all that must be known of the deeds so far to mark copies, to read them and to tell their starts.

A moment is (possible, rows, led, shown): what is possible and the rows as in agedcopy.notes; by start, in order, its
state now; and by state, by mark, the ascending starts that showed the state at some age of the mark's path.
"""

from agedcopy.machines import check_deed
from agedcopy.notes import first_rows, led_note


def starts_at(starts, led, state):
    """The ascending starts that are in a state now."""
    return tuple([start for start, now in zip(starts, led) if now == state])


def shown_row(row, shown, here):
    """By mark the starts that showed a state so far, told its row and those that show it now."""
    if here == ():
        return shown
    mark, _ = row[0]
    if mark == len(shown):
        return shown + (here,)
    return shown[:mark] + (tuple(sorted(set(shown[mark] + here))),) + shown[mark + 1:]


def shown_rows(rows, shown, starts, led):
    """By state the like, once copies of all possible states are kept."""
    return tuple([shown_row(row, shown[state], starts_at(starts, led, state)) for state, row in enumerate(rows)])


def first_moment(machine, starts):
    """The moment ahead of all deeds."""
    rows = first_rows(machine, starts)
    return (starts, rows, starts, shown_rows(rows, [()] * machine.states, starts, starts))


def next_moment(machine, starts, moment, deed):
    """The moment behind one more deed."""
    check_deed(machine, deed)
    possible, rows, led, shown = moment
    table = machine.tables[deed]
    possible, rows = led_note(table, possible, rows)
    led = tuple([table[now] for now in led])
    return (possible, rows, led, shown_rows(rows, shown, starts, led))


def mark_now(moment, state):
    """The mark of a copy of a possible state that is kept now."""
    _, rows, _, _ = moment
    return rows[state][0][0]


def place_of(moment, state, mark):
    """The state to which the copies of a state with a mark have come."""
    _, rows, _, _ = moment
    return [place for told, place in rows[state] if told == mark][0]
