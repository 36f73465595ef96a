"""Lists of states that may be now, where there are fewer marks than parted ages ask for.

A *path* is the ages of one mark by the youngest rule: all its copies have come to one place. An age that joins a path
adds nothing to any list; so it is enough to choose a mark for each path, when it opens.
"""

from agedcopy.ages import shown_ages
from agedcopy.errors import Refused, TooGreat
from agedcopy.kinds import is_number, is_sequence_of
from agedcopy.machines import check_log, check_state, image
from agedcopy.marks import marks_by_age
from agedcopy.options import check_told_bound
from agedcopy.tails import ends_by_age


def now_groups(machine, log, state, *, starts=None, kept=None):
    """The ascending (state now, ages) of the kept possible ages, by the state to which their copies lead."""
    log = check_log(machine, log)
    check_state(machine, state)
    ends = ends_by_age(machine, log)
    groups = {}
    for age in shown_ages(machine, log, state, starts, kept, None):
        groups.setdefault(ends[age][state], []).append(age)
    return tuple(sorted([(now, tuple(ages)) for now, ages in groups.items()]))


def check_marks_of(ages, value):
    """Raises Refused for any value that does not tell a number for each of some ages."""
    if not is_sequence_of(value, len(ages)) or not all([is_number(mark) for mark in value]):
        raise Refused(value)


def greatest_list(machine, log, state, marking, *, starts=None, kept=None):
    """How many unlike states the ages of one mark lead to at most, at any moment of the log."""
    log = check_log(machine, log)
    check_state(machine, state)
    shown = shown_ages(machine, log, state, starts, kept, None)
    check_marks_of(shown, marking)
    marks = {age: mark for age, mark in zip(shown, marking)}
    places = {}
    greatest = 0
    for age in range(len(log) + 1):
        if age > 0:
            places = {mark: image(machine.tables[log[age - 1]], states) for mark, states in places.items()}
        if age in marks:
            mark = marks[age]
            places[mark] = tuple(sorted(set(places.get(mark, ()) + (state,))))
            greatest = max(greatest, len(places[mark]))
    return greatest


def opening_places(machine, log, state, paths):
    """By path, when it opens, where all paths so far have come; `paths` tells by age the path, or None."""
    places = []
    found = []
    for age, path in enumerate(paths):
        if age > 0:
            table = machine.tables[log[age - 1]]
            places = [table[place] for place in places]
        if path == len(places):
            places = places + [state]
            found.append(places)
    return found


def is_fitting(places, marks, number):
    """Whether the paths that have the last mark have come to so few places, told the places and marks of all paths."""
    return len(set([place for place, mark in zip(places, marks) if mark == marks[-1]])) <= number


def longer_choices(moments, chosen, marks, number):
    """The marks of the paths so far and of the next one, where its list is not too long; marks come in order."""
    many = min(marks, max(chosen, default=-1) + 2)
    places = moments[len(chosen)]
    return [chosen + (mark,) for mark in range(many) if is_fitting(places, chosen + (mark,), number)]


def fitting_marks(moments, marks, number, most):
    """By path a mark so that no list is longer than a number; None if there are no such marks."""
    stack = [()]
    failed = 0
    while stack != []:
        chosen = stack.pop()
        if len(chosen) == len(moments):
            return chosen
        longer = longer_choices(moments, chosen, marks, number)
        if longer == []:
            # Each choice that fails stands for markings of its own: so there are at least as many as have failed.
            failed += 1
            if failed > most:
                raise TooGreat(most)
        stack.extend(longer[::-1])
    return None


def least_list(machine, log, state, marks, *, starts=None, kept=None, most=20000):
    """The least that greatest_list can be with so many marks, and a marking that has it."""
    log = check_log(machine, log)
    check_state(machine, state)
    check_told_bound(marks)
    shown = shown_ages(machine, log, state, starts, kept, None)
    paths = marks_by_age(machine, log, state, shown, None)
    moments = opening_places(machine, log, state, paths)
    # Some mark has its share of the places to which the paths have come.
    number = max([(len(set(places)) - 1) // marks + 1 for places in moments], default=0)
    chosen = fitting_marks(moments, marks, number, most)
    while chosen is None:
        number += 1
        chosen = fitting_marks(moments, marks, number, most)
    return (number, tuple([chosen[path] for path in paths if path is not None]))
