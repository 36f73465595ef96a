"""Machines of one deed, and machines whose deeds only change places."""

from math import lcm

from agedcopy.errors import Refused
from agedcopy.walks import first_walks


def check_one_deed(machine):
    """Raises Refused for a machine of more deeds than one."""
    if machine.deeds != 1:
        raise Refused(machine)


def steps_to(table, start, state):
    """The least number of deeds, from 1 on, by which a start comes to a state; None if it never does."""
    now = start
    for many in range(1, len(table) + 1):
        now = table[now]
        if now == state:
            return many
    return None


def one_row(table, state):
    """Of what length the state's ring is, or by how many deeds some state comes to it."""
    length = steps_to(table, state, state)
    if length is not None:
        return ("ring", length)
    ways = [steps_to(table, start, state) for start in range(len(table))]
    return ("way", max([way for way in ways if way is not None], default=0))


def one_rows(machine):
    """By state ("ring", length) if it comes back to itself, else ("way", most deeds by which a state comes to it)."""
    check_one_deed(machine)
    return tuple([one_row(machine.tables[0], state) for state in range(machine.states)])


def one_marks(machine):
    """By state the most marks that copies of it need along any log."""
    return tuple([number if word == "ring" else number + 1 for word, number in one_rows(machine)])


def one_wrap(machine):
    """The least number modulo which ages are enough for all states."""
    common = 1
    longest = 0
    for word, number in one_rows(machine):
        if word == "ring":
            common = lcm(common, number)
        else:
            longest = max(longest, number)
    return common * (longest // common + 1)


def orbit_size(machine, state):
    """How many states logs lead a state to."""
    came = first_walks([state], lambda now: [(deed, table[now]) for deed, table in enumerate(machine.tables)])
    return len(came)


def orbit_sizes(machine):
    """By state how many states logs lead it to, where no deed leads two states to one."""
    for table in machine.tables:
        if len(set(table)) < machine.states:
            raise Refused(machine)
    return tuple([orbit_size(machine, state) for state in range(machine.states)])
