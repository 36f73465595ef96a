"""Which notes later logs part, and how many notes a machine has.

A note is told here by the pair (possible, rows) alone.
"""

from agedcopy.errors import Refused
from agedcopy.machines import check_starts
from agedcopy.notes import first_rows, led_note
from agedcopy.walks import first_walks, log_to


def felt(note):
    """What can be felt of a note without a later log: what is possible, the marks of copies now, the rows as sets."""
    possible, rows = note
    marks = tuple([rows[state][0][0] for state in possible])
    return (possible, marks, tuple([tuple(sorted(row)) for row in rows]))


def note_steps(machine, note):
    """By deed the note behind it."""
    possible, rows = note
    return [(deed, led_note(table, possible, rows)) for deed, table in enumerate(machine.tables)]


def pair_note_steps(machine, pair):
    """By deed the two notes behind it; none where no later log parts the two, or the empty one does."""
    one, other = pair
    if one == other or felt(one) != felt(other):
        return []
    return [(deed, (led_note(table, one[0], one[1]), led_note(table, other[0], other[1])))
            for deed, table in enumerate(machine.tables)]


def parting_log(one, other):
    """The least of the shortest later logs behind which two notes tell unlike things, None if none does."""
    machine = one.machine
    if machine != other.machine:
        raise Refused(other)
    first = ((one.possible, one.rows), (other.possible, other.rows))
    came = first_walks([first], lambda told: pair_note_steps(machine, told))
    for pair in list(came):
        if felt(pair[0]) != felt(pair[1]):
            return log_to(came, pair)
    return None


def is_alike(one, other):
    """Whether no later log parts two notes."""
    return parting_log(one, other) is None


def numbered(things):
    """By thing a number of its own, equal things having equal ones."""
    numbers = {}
    for thing in things:
        numbers.setdefault(thing, len(numbers))
    return [numbers[thing] for thing in things]


def unlike_number(nexts, felts):
    """How many of some notes are unlike, told by note the places of those behind a deed, and what can be felt of it."""
    groups = numbered(felts)
    many = 0
    while max(groups) + 1 > many:
        many = max(groups) + 1
        groups = numbered([(group, tuple([groups[later] for later in row])) for group, row in zip(groups, nexts)])
    return many


def note_number(machine, *, starts=None, most=2000):
    """How many unequal notes logs lead to, and how many if alike ones count once."""
    starts = check_starts(machine, starts)
    first = (starts, first_rows(machine, starts))
    notes = list(first_walks([first], lambda told: note_steps(machine, told), most))
    places = {note: at for at, note in enumerate(notes)}
    nexts = [[places[later] for _, later in note_steps(machine, note)] for note in notes]
    return (len(notes), unlike_number(nexts, [felt(note) for note in notes]))
