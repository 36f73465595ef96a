"""Promises 34 and 35: notes, a store with a note alone."""

import random

from agedcopy.errors import BadCopy, BadLog, NoDeed, NoState, Refused
from agedcopy.machines import Machine, state_after
from agedcopy.marks import path_marks
from agedcopy.notes import LogNote, note_of
from agedcopy.readers import read_copy
from tests.helpers import ODD, RING, TURNS, WORN, Case, drawn_log, drawn_part, led, machines
from tests.plain import marks

HALL = Machine([(1, 2, 2), (0, 0, 0), (0, 2, 1)])


def told_rows(machine, log, starts):
    """By state the paths, by the rule of the marks: the youngest last age first."""
    rows = []
    for state in range(machine.states):
        last = {}
        for age, mark in enumerate(marks(machine, log, state, starts, None, None)):
            if mark is not None:
                last[mark] = age
        paths = sorted(last, key=last.get, reverse=True)
        rows.append(tuple((mark, led(machine, state, log[last[mark]:])) for mark in paths))
    return tuple(rows)


def drawn_notes(seed, number, states=4, deeds=3, length=8):
    draw = random.Random(seed)
    for machine in machines(seed, number, states, deeds):
        yield machine, drawn_log(draw, machine, length), draw.choice([None, drawn_part(draw, machine.states, 1)]), draw


class NoteTest(Case):
    def test_example(self):
        note = note_of(HALL, (2, 0))
        self.same(note.possible, (1, 2))
        self.same(note.rows, (((0, 1),), ((2, 1), (1, 2), (0, 2)), ((1, 2), (0, 2))))
        self.same((note.mark(2), note.read(1, 0, (2,))), (1, 1))

    def test_ahead_of_all_deeds(self):
        note = LogNote(HALL)
        self.same((note.machine is HALL, note.age, note.possible), (True, 0, (0, 1, 2)))
        self.same(note.rows, (((0, 0),), ((0, 1),), ((0, 2),)))
        note = LogNote(machine=HALL, starts=[1])
        self.same((note.age, note.possible, note.rows), (0, (1,), ((), ((0, 1),), ())))
        self.same(note_of(HALL, []) == LogNote(HALL, starts=None), True)

    def test_put(self):
        note = LogNote(HALL)
        self.same((note.put(2), note.put(deed=0), note.age), (1, 2, 2))
        self.same(note == note_of(machine=HALL, log=[2, 0], starts=(0, 1, 2)), True)

    def test_the_youngest_last_age_comes_first(self):
        # Both paths of state 0 have come to it; only the younger one is handed on.
        note = note_of(TURNS, (0, 1))
        self.same(note.rows[0], ((1, 0), (0, 0)))
        note.put(1)
        self.same((note.rows[0], note.mark(0)), (((1, 0), (0, 0)), 1))
        # A path that comes back is the first one from then on.
        note = note_of(RING, (0, 0, 0, 0))
        self.same((note.rows[0], note.mark(0)), (((0, 0), (3, 1), (2, 2), (1, 3)), 0))

    def test_starts_told(self):
        starts = [0]
        note = LogNote(TURNS, starts=starts)
        starts.append(2)
        note.put(0)
        self.same((note.possible, note.rows), ((1,), (((0, 1),), ((0, 1),), ())))
        self.same((note.mark(1), note.read(0, 0), note.read(0, mark=0, later=[0])), (0, 1, 2))
        self.fails(Refused, 0, note.mark, 0)
        self.fails(BadCopy, 0, note.read, 2, 0)

    def test_reading_takes_no_deeds(self):
        note = note_of(HALL, (2, 0))
        self.same(note.read(state=1, mark=0, later=(2, 1, 0)), 1)
        self.same((note.age, note == note_of(HALL, (2, 0))), (2, True))
        self.same(note.read(1, 1, [0] * 10000), 2)

    def test_equal(self):
        note = note_of(TURNS, (0, 1, 1))
        self.same((note == note_of(TURNS, [0, 1]), note.age, note != note_of(TURNS, [0, 1])), (True, 3, False))
        self.same(note == note_of(Machine([[1, 2, 0], [0, 0, 0]]), [0, 1]), True)
        self.same(note == note_of(TURNS, (0, 1), starts=[0, 1]), False)
        # What is possible is the same, and so are the rows, but not the machine.
        one, other = LogNote(Machine([(0, 1)])), LogNote(Machine([(1, 0)]))
        self.same((one.rows == other.rows, one.possible == other.possible, one == other), (True, True, False))
        one, other = note_of(Machine([(1, 1), (0, 1)]), (0,)), LogNote(Machine([(1, 1), (0, 1)]))
        self.same((one.possible, other.possible, one == other), ((1,), (0, 1), False))
        for value in (*ODD, TURNS, note.rows):
            self.same((note == value, note != value), (False, True))

    def test_errors_of_what_is_made(self):
        for value in (*ODD, (), [], [1, 0], [0, 0], [3], 0):
            if value is not None:
                self.fails(Refused, value, LogNote, HALL, starts=value)
                self.fails(Refused, value, note_of, HALL, (0,), starts=value)
        self.fails(BadLog, -1, note_of, HALL, None, starts=0)
        self.fails(BadLog, 1, note_of, HALL, [0, 3], starts=0)
        self.fails(BadLog, -1, note_of, HALL, [0] * 10001)
        with self.assertRaises(TypeError):
            LogNote(HALL, (0,))

    def test_errors_change_nothing(self):
        note = note_of(HALL, (0, 0))
        self.same((note.possible, note.rows[0]), ((2,), ((0, 2),)))
        for value in (*ODD, 3):
            self.fails(NoDeed, value, note.put, value)
            self.fails(NoState, value, note.mark, value)
            self.fails(NoState, value, note.read, value, None, None)
            self.fails(BadCopy, value, note.read, 0, value, None)
        for state in (0, 1):
            self.fails(Refused, state, note.mark, state)
        self.fails(BadCopy, 1, note.read, 0, 1)
        self.fails(BadLog, -1, note.read, 0, 0, None)
        self.fails(BadLog, -1, note.read, 0, 0, 0)
        self.fails(BadLog, 1, note.read, 0, 0, (0, 3))
        self.fails(BadLog, -1, note.read, 0, 0, [0] * 10001)
        self.same((note.age, note == note_of(HALL, (0, 0))), (2, True))

    def test_drawn(self):
        several = 0
        for machine, log, starts, _ in drawn_notes(120, 250):
            note = LogNote(machine, starts=starts)
            for age in range(len(log) + 1):
                if age > 0:
                    self.same(note.put(log[age - 1]), age)
                told = range(machine.states) if starts is None else starts
                self.same(note.possible, tuple(sorted({led(machine, start, log[:age]) for start in told})))
                self.same(note.rows, told_rows(machine, log[:age], starts))
                self.assertLessEqual(max(len(row) for row in note.rows), len(told))
                several += any(len({place for _, place in row}) < len(row) for row in note.rows)
            self.same(note == note_of(machine, log, starts=starts), True)
        self.assertGreater(several, 50)


class CutTest(Case):
    """A log that was cut, with the note of the part that is gone, serves as the whole log does."""

    def test_drawn(self):
        for machine, log, starts, _ in drawn_notes(121, 150):
            for cut in range(len(log) + 1):
                note = note_of(machine, log[:cut], starts=starts)
                for state in range(machine.states):
                    self.check_reading(note, log, cut, state, starts)
                for deed in log[cut:]:
                    note.put(deed)
                self.same(note == note_of(machine, log, starts=starts), True)
                self.same((note.age, note.rows), (len(log), note_of(machine, log, starts=starts).rows))

    def check_reading(self, note, log, cut, state, starts):
        """Copies from ahead of the cut, by the note and the deeds behind it, and by the whole log."""
        found = path_marks(note.machine, log, state, starts=starts)
        if found[cut] is not None:
            self.same(note.mark(state), found[cut])
        else:
            self.fails(Refused, state, note.mark, state)
        for age in range(cut + 1):
            if found[age] is not None:
                now = state_after(note.machine, state, log[age:])
                self.same(note.read(state, found[age], log[cut:]), now)
                self.same(read_copy(note.machine, log, state, found[age], starts=starts), now)
        self.fails(BadCopy, len(note.rows[state]), note.read, state, len(note.rows[state]))

    def test_marks_go_on(self):
        for machine, log, starts, _ in drawn_notes(122, 80):
            note = note_of(machine, log[:len(log) // 2], starts=starts)
            for age in range(len(log) // 2, len(log)):
                note.put(log[age])
                for state in note.possible:
                    self.same(note.mark(state), path_marks(machine, log, state, starts=starts)[age + 1])

    def test_limits(self):
        draw = random.Random(123)
        twelve = Machine([tuple((state + 1) % 12 for state in range(12)), (1, 0, *range(2, 12)), (1, *range(1, 12))])
        log = [draw.choice((0, 0, 0, 1, 2)) for _ in range(400)]
        note = note_of(twelve, log)
        self.same(note.age, 400)
        for state in range(12):
            found = path_marks(twelve, log, state)
            last = {mark: age for age, mark in enumerate(found) if mark is not None}
            for mark, age in last.items():
                self.same(note.read(state, mark), state_after(twelve, state, log[age:]))
        self.same(note_of(WORN, [0] * 10000).age, 10000)
