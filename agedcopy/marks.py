"""Marks by the youngest rule: a copy takes the mark of the youngest earlier copy that is met with it."""

from agedcopy.ages import shown_ages
from agedcopy.machines import check_deed, check_log, check_starts, check_state, image
from agedcopy.options import check_bound, check_told_bound, is_within
from agedcopy.paths import carried


class Paths:
    """The copies of one state along a log of deeds: what is needed of them to mark the next one."""

    def __init__(self, machine, state, bound):
        self.machine = machine
        self.state = state
        self.bound = bound
        # By place the age and the mark of the youngest copy there: only that one can hand its mark on.
        self.copies = [None] * machine.states
        # By mark the youngest age that has it.
        self.last = []

    def move(self, deed):
        """A deed is done."""
        self.copies = carried(self.machine.tables[deed], self.copies)

    def held_at(self, now):
        """The ascending marks that ages have which count now."""
        return [mark for mark, age in enumerate(self.last) if is_within(age, now, self.bound)]

    def free_at(self, now):
        """The least mark that no age has which counts now."""
        for mark, age in enumerate(self.last):
            if not is_within(age, now, self.bound):
                return mark
        return len(self.last)

    def mark_at(self, now):
        """The mark of a copy that is kept now."""
        copy = self.copies[self.state]
        if copy is not None and is_within(copy[0], now, self.bound):
            return copy[1]
        return self.free_at(now)

    def put_copy(self, now):
        """A copy is kept now; returns its mark."""
        mark = self.mark_at(now)
        if mark == len(self.last):
            self.last.append(now)
        self.last[mark] = now
        self.copies[self.state] = (now, mark)
        return mark


def marks_by_age(machine, log, state, ages, bound):
    """By age the mark of a copy that is kept then, None at other ages than those told."""
    paths = Paths(machine, state, bound)
    marks = []
    for age in range(len(log) + 1):
        if age > 0:
            paths.move(log[age - 1])
        marks.append(paths.put_copy(age) if age in ages else None)
    return tuple(marks)


def path_marks(machine, log, state, *, starts=None, kept=None):
    """By age the mark of a copy of a state that is kept then, None where none is."""
    log = check_log(machine, log)
    check_state(machine, state)
    shown = shown_ages(machine, log, state, starts, kept, None)
    return marks_by_age(machine, log, state, shown, None)


def bounded_marks(machine, log, state, bound, *, starts=None, kept=None):
    """The like, if copies older than the last `bound` ages are given up and their marks used again."""
    log = check_log(machine, log)
    check_state(machine, state)
    check_told_bound(bound)
    shown = shown_ages(machine, log, state, starts, kept, None)
    return marks_by_age(machine, log, state, shown, bound)


class Marker:
    """Hears deeds alone, without a log, and marks the copies of all states."""

    def __init__(self, machine, *, starts=None, bound=None):
        self._possible = check_starts(machine, starts)
        check_bound(bound)
        self.machine = machine
        self.bound = bound
        self.age = 0
        self._paths = tuple([Paths(machine, state, bound) for state in range(machine.states)])

    def put(self, deed):
        """A deed is done; returns the age."""
        check_deed(self.machine, deed)
        self._possible = image(self.machine.tables[deed], self._possible)
        for paths in self._paths:
            paths.move(deed)
        self.age += 1
        return self.age

    def keep(self):
        """Makes this age a kept one; returns by state the mark of a copy that is kept now, or None."""
        marks = [None] * self.machine.states
        for state in self._possible:
            marks[state] = self._paths[state].put_copy(self.age)
        return tuple(marks)

    def marks_at(self, state):
        """The ascending marks that copies of a state may hold."""
        check_state(self.machine, state)
        return tuple(self._paths[state].held_at(self.age))
