"""Promises 15, 16, 17 and 18: the youngest rule, marks used again, the marker."""

import itertools
import random

from agedcopy.errors import BadLog, NoDeed, NoState, Refused
from agedcopy.forests import least_marks, window_numbers
from agedcopy.machines import Machine
from agedcopy.marks import Marker, bounded_marks, path_marks
from tests.helpers import ODD, TURNS, Case, drawn_log, drawn_part, machines
from tests.plain import OptionCase, are_met, drawn_cases, marks


class PathMarksTest(OptionCase):
    def test_example(self):
        self.same(path_marks(TURNS, (0, 0, 0, 0), 0), (0, 1, 2, 0, 1))

    def test_edges(self):
        self.same(path_marks(TURNS, (), 0), (0,))
        self.same(path_marks(TURNS, (), 0, starts=[1]), (None,))
        self.same(path_marks(TURNS, [0] * 4, state=0, kept=()), (None,) * 5)
        self.same(path_marks(TURNS, [0] * 4, 0, kept=[1, 2, 4]), (None, 0, 1, None, 0))
        self.same(path_marks(TURNS, [0] * 4, 0, starts=(0,)), (0, None, None, 0, None))

    def test_the_youngest_and_not_the_oldest(self):
        # Behind two turns and a deed that sets all back, both early copies have met the new one.
        self.same(path_marks(TURNS, (0, 1), 0), (0, 1, 1))
        self.same(path_marks(TURNS, (0, 0, 1, 0), 0), (0, 1, 2, 2, None))

    def test_errors_in_order(self):
        self.fails(BadLog, -1, path_marks, TURNS, 0, None, starts=0)
        for value in (*ODD, 3):
            self.fails(NoState, value, path_marks, TURNS, (0,), value, starts=0, kept=0)
        self.options_fail(Refused, ODD, ("starts", "kept"), path_marks, TURNS, (0, 0), 0)
        with self.assertRaises(TypeError):
            path_marks(TURNS, (0, 0), 0, bound=2)

    def test_drawn(self):
        for machine, log, state, starts, kept, _ in drawn_cases(50, 250):
            found = path_marks(machine, log, state, starts=starts, kept=kept)
            self.same(found, marks(machine, log, state, starts, kept, None))
            self.check_safe(machine, log, state, found, None)
            self.check_least(machine, log, state, starts, kept, found)

    def check_safe(self, machine, log, state, found, bound):
        for one, other in itertools.combinations(range(len(found)), 2):
            if found[one] is not None and found[one] == found[other] and (bound is None or other - one < bound):
                self.assertTrue(are_met(machine, log, one, other, state))

    def check_least(self, machine, log, state, starts, kept, found):
        """At every moment, for every bound at once, no more marks than are needed."""
        for moment in range(len(found)):
            ages = None if kept is None else [age for age in kept if age <= moment]
            for bound in range(1, moment + 2):
                held = {mark for mark in found[moment + 1 - bound:moment + 1] if mark is not None}
                told = least_marks(machine, log[:moment], state, starts=starts, kept=ages, bound=bound)
                self.assertEqual(len(held), told)


class BoundedMarksTest(PathMarksTest):
    def test_example(self):
        self.same(bounded_marks(TURNS, (0, 0, 0, 0), 0, 2), (0, 1, 0, 1, 0))

    def test_edges(self):
        self.same(bounded_marks(TURNS, (), 0, 1), (0,))
        self.same(bounded_marks(TURNS, [0] * 4, 0, 1), (0,) * 5)
        self.same(bounded_marks(TURNS, [0] * 4, state=0, bound=3), (0, 1, 2, 0, 1))
        self.same(bounded_marks(TURNS, [0] * 4, 0, 4), (0, 1, 2, 0, 1))
        self.same(bounded_marks(TURNS, [0] * 4, 0, 10 ** 6), path_marks(TURNS, [0] * 4, 0))
        self.same(bounded_marks(TURNS, [0] * 4, 0, 2, kept=[]), (None,) * 5)
        self.same(bounded_marks(TURNS, [0] * 4, 0, 3, kept=[0, 1, 4]), (0, 1, None, None, 0))
        self.same(bounded_marks(TURNS, [0] * 4, 0, 2, starts=[0]), (0, None, None, 0, None))

    def test_the_youngest_and_not_the_oldest(self):
        self.same(bounded_marks(TURNS, (0, 1), 0, 3), (0, 1, 1))

    def test_errors_in_order(self):
        self.fails(BadLog, -1, bounded_marks, TURNS, 0, None, None, starts=0)
        self.fails(NoState, 3, bounded_marks, TURNS, (0,), 3, None, starts=0)
        for value in (*ODD, 0, (), []):
            if value != 10 ** 30:
                self.fails(Refused, value, bounded_marks, TURNS, (0, 0), 0, value, starts=0, kept=0)
        self.options_fail(Refused, ODD, ("starts", "kept"), bounded_marks, TURNS, (0, 0), 0, 2)

    def test_drawn(self):
        again = 0
        for machine, log, state, starts, kept, _ in drawn_cases(51, 200):
            for bound in range(1, len(log) + 3):
                found = bounded_marks(machine, log, state, bound, starts=starts, kept=kept)
                self.same(found, marks(machine, log, state, starts, kept, bound))
                self.check_safe(machine, log, state, found, bound)
                most = max(window_numbers(machine, log, state, bound, starts=starts, kept=kept))
                self.assertEqual({mark for mark in found if mark is not None}, set(range(most)))
                again += found != path_marks(machine, log, state, starts=starts, kept=kept)
        self.assertGreater(again, 20)


class MarkerTest(OptionCase):
    def test_example(self):
        marker = Marker(TURNS)
        found = (marker.keep(), marker.put(0), marker.keep(), marker.put(1), marker.keep(), marker.marks_at(0))
        self.same(found, ((0, 0, 0), 1, (1, 1, 1), 2, (1, None, None), (0, 1)))

    def test_attributes(self):
        marker = Marker(TURNS)
        self.same((marker.machine is TURNS, marker.bound, marker.age), (True, None, 0))
        marker = Marker(machine=TURNS, bound=3, starts=[0, 1])
        self.same((marker.machine is TURNS, marker.bound, marker.age), (True, 3, 0))
        marker.put(deed=1)
        self.same((marker.bound, marker.age), (3, 1))

    def test_errors(self):
        self.options_fail(Refused, ODD, ("starts", "bound"), Marker, TURNS)
        marker = Marker(TURNS)
        marker.keep()
        for value in (*ODD, 2, [0]):
            self.fails(NoDeed, value, marker.put, value)
        for value in (*ODD, 3, [0]):
            self.fails(NoState, value, marker.marks_at, value)
        self.same((marker.age, marker.keep(), marker.marks_at(state=0)), (0, (0, 0, 0), (0,)))

    def test_nothing_kept(self):
        marker = Marker(TURNS)
        self.same(marker.marks_at(0), ())
        marker.put(0)
        self.same(marker.marks_at(0), ())
        self.same(marker.keep(), (0, 0, 0))

    def test_kept_again(self):
        for bound in (None, 1, 2):
            marker = Marker(TURNS, bound=bound)
            marker.keep()
            marker.put(0)
            self.same(marker.keep(), marker.keep())
            self.same(marker.marks_at(0), marker.marks_at(0))
            marker.put(0)
            self.same(marker.keep(), (2, 2, 2) if bound is None else (0, 0, 0))

    def test_marks_that_are_given_up(self):
        marker = Marker(TURNS, bound=2, starts=[0])
        self.same(marker.keep(), (0, None, None))
        self.same(marker.marks_at(0), (0,))
        marker.put(0)
        self.same(marker.marks_at(0), (0,))
        self.same((marker.keep(), marker.marks_at(0), marker.marks_at(1)), ((None, 0, None), (0,), (0,)))
        marker.put(0)
        self.same((marker.marks_at(0), marker.marks_at(1), marker.marks_at(2)), ((), (0,), ()))

    def test_the_starts_told_stay(self):
        starts = [0, 2]
        marker = Marker(TURNS, starts=starts)
        starts.append(1)
        self.same(marker.keep(), (0, None, 0))

    def test_drawn(self):
        draw = random.Random(52)
        for machine in machines(52, 150):
            log = drawn_log(draw, machine, 9)
            starts = draw.choice([None, drawn_part(draw, machine.states, 1)])
            kept = drawn_part(draw, len(log) + 1)
            for bound in (None, 1, 2, 3, 5, 20):
                self.check_marker(machine, log, starts, kept, bound)

    def check_marker(self, machine, log, starts, kept, bound):
        told = [marks(machine, log, state, starts, kept, bound) for state in range(machine.states)]
        marker = Marker(machine, starts=starts, bound=bound)
        for age in range(len(log) + 1):
            if age > 0:
                self.same(marker.put(log[age - 1]), age)
            if age in kept:
                row = tuple(row[age] for row in told)
                self.same((marker.keep(), marker.keep()), (row, row))
            for state, row in enumerate(told):
                near = row[max(0, age + 1 - bound):age + 1] if bound is not None else row[:age + 1]
                self.same(marker.marks_at(state), tuple(sorted({mark for mark in near if mark is not None})))


class LimitTest(Case):
    def test_never_more_marks_than_states(self):
        draw = random.Random(53)
        for machine in machines(53, 12, 12, 3):
            log = [draw.randrange(machine.deeds) for _ in range(400)]
            for state in range(machine.states):
                found = [mark for mark in path_marks(machine, log, state) if mark is not None]
                self.assertLess(max(found), machine.states)
                found = [mark for mark in bounded_marks(machine, log, state, 30) if mark is not None]
                self.assertLess(max(found), machine.states)

    def test_many_deeds(self):
        ring = Machine([tuple((state + 1) % 12 for state in range(12))])
        for bound, told in ((None, 10000 % 12), (10 ** 6, 10000 % 12), (5, 0)):
            marker = Marker(ring, bound=bound)
            for _ in range(10000):
                marker.keep()
                marker.put(0)
            self.same(marker.age, 10000)
            self.same(marker.keep(), (told,) * 12)
            self.same(marker.marks_at(0), tuple(range(12 if bound is None or bound > 12 else bound)))
