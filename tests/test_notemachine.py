"""Promise 36: notes that later logs part, how many notes a machine has."""

import itertools
import random

from agedcopy.errors import Refused, TooGreat
from agedcopy.machines import Machine
from agedcopy.notemachine import is_alike, note_number, parting_log
from agedcopy.notes import LogNote, note_of
from agedcopy.tokens import all_most
from tests.helpers import ODD, RING, TURNS, WORN, Case, drawn_log, drawn_part, logs_to, machines

HALL = Machine([(1, 2, 2), (0, 0, 0), (0, 2, 1)])
# It has two notes that are not equal and that no later log parts.
ALIKE = Machine([(2, 2, 2), (1, 0, 2)])


def told(note):
    """What promise 36 compares, behind the empty later log."""
    return note.possible, [note.mark(state) for state in note.possible], [set(row) for row in note.rows]


def behind(note, log):
    """A note of its own that has gone on."""
    found = LogNote(note.machine)
    found.possible, found.rows, found.age = note.possible, note.rows, note.age
    for deed in log:
        found.put(deed)
    return found


def all_notes(machine, starts):
    """All unequal notes, and by note the places of those behind each deed."""
    notes = [LogNote(machine, starts=starts)]
    places = {(notes[0].possible, notes[0].rows): 0}
    nexts = []
    for note in notes:
        row = []
        for deed in range(machine.deeds):
            later = behind(note, [deed])
            row.append(places.setdefault((later.possible, later.rows), len(notes)))
            if row[-1] == len(notes):
                notes.append(later)
        nexts.append(row)
    return notes, nexts


def unlike_pairs(notes, nexts):
    """The pairs of places of notes that some later log parts: first those told apart now, then one deed earlier."""
    pairs = list(itertools.combinations(range(len(notes)), 2))
    found = {frozenset(pair) for pair in pairs if told(notes[pair[0]]) != told(notes[pair[1]])}
    while True:
        more = {frozenset(pair) for pair in pairs
                if any(frozenset(later) in found for later in zip(nexts[pair[0]], nexts[pair[1]]))} | found
        if more == found:
            return found
        found = more


class PartingTest(Case):
    def test_example(self):
        self.same(parting_log(note_of(HALL, (2, 0)), note_of(HALL, (0, 1))), ())

    def test_edges(self):
        self.same(parting_log(LogNote(HALL), LogNote(HALL)), None)
        self.same(is_alike(one=note_of(RING, (0,) * 3), other=note_of(RING, [0] * 3)), True)
        # Equal notes of unlike ages.
        self.same(parting_log(other=note_of(TURNS, (0, 1, 1)), one=note_of(TURNS, (0, 1))), None)
        self.same(parting_log(LogNote(HALL, starts=[0]), LogNote(HALL, starts=[0, 1])), ())
        self.same(is_alike(LogNote(HALL, starts=[0]), LogNote(HALL, starts=[0, 1])), False)

    def test_the_least_of_the_shortest(self):
        machine = Machine([(2, 1, 1), (2, 1, 1), (0, 2, 0)])
        one, other = note_of(machine, (2, 1, 0)), note_of(machine, (1, 1))
        self.same((told(one) == told(other), parting_log(one, other)), (True, (2,)))
        machine = Machine([(0, 2, 1), (2, 0, 2)])
        one, other = note_of(machine, (0, 1, 0, 1, 1)), note_of(machine, (0, 0, 1, 1, 1))
        self.same((parting_log(one, other), parting_log(other, one), is_alike(one, other)), ((0, 1), (0, 1), False))
        self.same((one == note_of(machine, (0, 1, 0, 1, 1)), one.age), (True, 5))

    def test_alike_and_not_equal(self):
        notes, _ = all_notes(ALIKE, None)
        pairs = [pair for pair in itertools.combinations(notes, 2) if is_alike(*pair)]
        self.same((len(notes), len(pairs)), (6, 1))
        one, other = pairs[0]
        self.same((one == other, parting_log(one, other), is_alike(other, one)), (False, None, True))
        self.assertNotEqual(one.rows, other.rows)
        for log in logs_to(ALIKE, 6):
            self.assertEqual(told(behind(one, log)), told(behind(other, log)))

    def test_errors(self):
        for call in (parting_log, is_alike):
            for other in (LogNote(TURNS), note_of(WORN, (0,)), LogNote(Machine([(1, 2, 2), (0, 0, 0)])),
                          LogNote(Machine([(1, 2, 2), (0, 0, 0), (0, 1, 2)]))):
                self.fails(Refused, other, call, LogNote(HALL), other)
            self.assertIn(call(LogNote(HALL), LogNote(Machine([[1, 2, 2], [0, 0, 0], [0, 2, 1]]))), (None, True))

    def test_drawn(self):
        draw = random.Random(130)
        found = set()
        for machine in machines(130, 200, 3, 3):
            starts = draw.choice([None, drawn_part(draw, machine.states, 1)])
            one = note_of(machine, drawn_log(draw, machine, 5), starts=starts)
            other = note_of(machine, drawn_log(draw, machine, 5), starts=starts)
            log = parting_log(one, other)
            self.same(is_alike(one, other), log is None)
            found.add("none" if log is None else len(log))
            told_log = next((later for later in logs_to(machine, 3)
                             if told(behind(one, later)) != told(behind(other, later))), None)
            if log is None or len(log) <= 3:
                self.same(log, told_log)
        self.assertLessEqual({"none", 0}, found)

    def test_all_pairs(self):
        deep = set()
        late = Machine([(0, 2, 1), (2, 0, 2)])
        for machine in (ALIKE, HALL, TURNS, late, *machines(131, 100, 3, 2)):
            notes, nexts = all_notes(machine, None)
            if len(notes) > 70:
                continue
            unlike = unlike_pairs(notes, nexts)
            for one, other in itertools.combinations(range(len(notes)), 2):
                log = parting_log(notes[one], notes[other])
                self.assertEqual(log is not None, frozenset((one, other)) in unlike)
                deep.add(None if log is None else len(log))
                if log is not None:
                    self.assertNotEqual(told(behind(notes[one], log)), told(behind(notes[other], log)))
                    for shorter in logs_to(machine, len(log)):
                        if shorter == log:
                            break
                        self.assertEqual(told(behind(notes[one], shorter)), told(behind(notes[other], shorter)))
        self.assertLessEqual({None, 0, 1, 2}, deep)


class NumberTest(Case):
    def test_edges(self):
        self.same(note_number(Machine([(0,)])), (1, 1))
        self.same(note_number(machine=Machine([(0, 1, 2)] * 3), starts=None, most=1), (1, 1))
        self.same(note_number(ALIKE), (6, 5))
        self.same(note_number(HALL), (48, 48))
        self.same(note_number(HALL, starts=[0], most=50), note_number(HALL, starts=(0,)))
        self.same(note_number(RING), (4 + 3, 7))

    def test_most_just_reached_and_just_passed(self):
        for machine, starts in ((ALIKE, None), (HALL, None), (HALL, [1, 2]), (RING, None), (TURNS, [0])):
            many = note_number(machine, starts=starts)[0]
            self.same(note_number(machine, starts=starts, most=many), note_number(machine, starts=starts))
            self.same(note_number(machine, starts=starts, most=many + 1)[0], many)
            for most in {1, many // 2, many - 1} - {0, many}:
                self.fails(TooGreat, most, note_number, machine, starts=starts, most=most)

    def test_the_default(self):
        many = Machine([(0, 2, 2), (0, 2, 1), (1, 0, 2)])
        self.fails(TooGreat, 2000, note_number, many)
        self.same(note_number(many, most=5000), (2484, 1067))

    def test_errors_in_order(self):
        for value in (*ODD, (), [], [1, 0], [0, 0], [3], 0):
            if value is not None:
                self.fails(Refused, value, note_number, HALL, starts=value)
                self.fails(Refused, value, note_number, HALL, starts=value, most=1)
        with self.assertRaises(TypeError):
            note_number(HALL, None, 5)

    def test_drawn(self):
        draw = random.Random(132)
        for machine in machines(132, 60, 3, 3):
            starts = draw.choice([None, drawn_part(draw, machine.states, 1)])
            notes, nexts = all_notes(machine, starts)
            if len(notes) > 120:
                continue
            unlike = unlike_pairs(notes, nexts)
            classes = []
            for at in range(len(notes)):
                if all(frozenset((at, other)) in unlike for other in classes):
                    classes.append(at)
            self.same(note_number(machine, starts=starts), (len(notes), len(classes)))

    def test_paths_are_the_marks_that_are_needed(self):
        """Over all notes, a state has at most as many paths as it needs marks at most: promises 22 and 35."""
        for machine in machines(133, 60, 3, 2):
            notes, _ = all_notes(machine, None)
            rows = [max(len(note.rows[state]) for note in notes) for state in range(machine.states)]
            self.same(tuple(rows), all_most(machine))

    def test_limits(self):
        ring = Machine([(1, 2, 3, 4, 0), (0, 1, 2, 3, 4), (1, 0, 2, 3, 4)])
        self.fails(TooGreat, 5000, note_number, ring, most=5000)
        fewer = Machine([(1, 1, 1, 1, 0), (4, 1, 3, 2, 0), (1, 0, 2, 3, 4)])
        self.same(note_number(fewer, most=5000), (3761, 1190))
