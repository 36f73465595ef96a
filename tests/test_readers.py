"""Promises 19 and 20: reading, any marking."""

import itertools
import random

from agedcopy.errors import BadLog, NoState, Refused
from agedcopy.machines import Machine
from agedcopy.marks import bounded_marks, path_marks
from agedcopy.readers import is_safe_marking, read_age, read_copy, unsafe_holds, unsafe_paper
from tests.helpers import ODD, TURNS, Case, bent, is_below, is_row, led
from tests.plain import OptionCase, are_met, counting, drawn_cases, marks, showing

ALL = ("starts", "kept", "bound")


class ReadTest(OptionCase):
    def test_examples(self):
        self.same(read_age(TURNS, (0, 0, 0, 0), 0, 1), 4)
        self.same(read_copy(TURNS, (0, 0, 0, 0, 0), 0, 1), 1)

    def test_edges(self):
        self.same((read_age(TURNS, (), 0, 0), read_copy(TURNS, [], 2, 0)), (0, 2))
        self.same(read_age(TURNS, [0] * 4, state=0, mark=2, starts=None, kept=None, bound=None), 2)
        self.same(read_age(TURNS, [0] * 4, 0, 0, kept=[0, 1, 2]), 0)
        self.same(read_copy(TURNS, [0] * 4, 0, 0, kept=[0, 1, 2]), 1)
        self.same(read_age(TURNS, [0] * 4, 0, 0, starts=(0,)), 3)
        self.same(read_age(TURNS, [0] * 4, 0, 0, bound=1), 4)
        self.same(read_age(TURNS, [0] * 4, 0, 1, bound=10 ** 6), 4)
        self.same(read_age(TURNS, [0] * 4, 0, 1, bound=2), 3)
        self.same(read_copy(TURNS, [0] * 4, 0, 1, bound=2), 1)

    def test_marks_that_no_copy_has(self):
        for call in (read_age, read_copy):
            for value in (*ODD, 3, 1 << 70):
                self.fails(Refused, value, call, TURNS, (0, 0, 0, 0), 0, value)
            self.fails(Refused, 0, call, TURNS, (0, 0), 0, 0, kept=())
            self.fails(Refused, 0, call, TURNS, (), 0, 0, starts=[1])
            self.fails(Refused, 1, call, TURNS, (0, 0), 0, 1, kept=[2])
            # By the mark alone there is such a copy, but it is too old.
            self.fails(Refused, 2, call, TURNS, (0, 0, 1), 0, 2, kept=[0, 1], bound=2)
            self.fails(Refused, 0, call, TURNS, (0, 0), 0, 0, kept=[0, 1], bound=2)
            self.same(call(TURNS, (0, 0), 0, 1, kept=[0, 1], bound=2), 1)

    def test_errors_in_order(self):
        for call in (read_age, read_copy):
            self.fails(BadLog, -1, call, TURNS, 0, None, None, starts=0)
            for value in (*ODD, 3):
                self.fails(NoState, value, call, TURNS, (0,), value, None, starts=0, kept=0, bound=0)
            self.options_fail(Refused, ODD, ALL, call, TURNS, (0, 0), 0, 0)
            for name in ALL:
                self.fails(Refused, "", call, TURNS, (0, 0), 0, None, **{name: ""})

    def test_drawn(self):
        older = 0
        for machine, log, state, starts, kept, bound in drawn_cases(60, 250):
            options = {"starts": starts, "kept": kept, "bound": bound}
            told = marks(machine, log, state, starts, kept, bound)
            ages = counting(machine, log, state, starts, kept, bound)
            for mark in range(machine.states + 1):
                same = [age for age in ages if told[age] == mark]
                if same == []:
                    self.fails(Refused, mark, read_age, machine, log, state, mark, **options)
                    self.fails(Refused, mark, read_copy, machine, log, state, mark, **options)
                    continue
                self.same(read_age(machine, log, state, mark, **options), same[-1])
                for age in same:
                    self.same(read_copy(machine, log, state, mark, **options), led(machine, state, log[age:]))
                older += len(same) > 1
        self.assertGreater(older, 50)


def first_unsafe(machine, log, marking, starts, kept, bound):
    """The least state and ages for which a marking is not safe, with the least starts; word by word."""
    for state in range(machine.states):
        ages = counting(machine, log, state, starts, kept, bound)
        for one, other in itertools.combinations(ages, 2):
            if marking[one][state] == marking[other][state] and not are_met(machine, log, one, other, state):
                first = [showing(machine, log, age, state, starts)[0] for age in (one, other)]
                return ("unsafe", state, one, other, *first)
    return None


def tells_unsafe(machine, log, marking, value, starts, kept, bound):
    if not is_row(value, 6) or value[0] != "unsafe" or not is_below(value[1], machine.states):
        return False
    _, state, one, other, start, later = value
    ages = counting(machine, log, state, starts, kept, bound)
    for age, first in ((one, start), (other, later)):
        if not is_below(age, len(log) + 1) or age not in ages or not is_below(first, machine.states):
            return False
        if first not in showing(machine, log, age, state, starts):
            return False
    return (one < other and marking[one][state] == marking[other][state]
            and led(machine, start, log[:one]) == led(machine, later, log[:other])
            and led(machine, start, log[:other]) != led(machine, later, log[:other]))


def drawn_marking(draw, machine, log, most):
    return [[draw.randrange(most) for _ in range(machine.states)] for _ in range(len(log) + 1)]


class MarkingTest(OptionCase):
    def test_examples(self):
        self.same(is_safe_marking(TURNS, (0,), [(0, 0, 0), (1, 1, 1)]), True)
        self.same(unsafe_paper(TURNS, (0, 0), [(0, 0, 0)] * 3), ("unsafe", 0, 0, 1, 0, 2))

    def test_edges(self):
        same = [(0, 0, 0)] * 5
        self.same((is_safe_marking(TURNS, (), [[9, 9, 9]]), unsafe_paper(TURNS, (), ((9, 9, 9),))), (True, None))
        self.same(unsafe_paper(TURNS, [0] * 4, same, kept=()), None)
        self.same(is_safe_marking(machine=TURNS, log=[0] * 4, marking=same, kept=[0, 3]), True)
        self.same(unsafe_paper(TURNS, [0] * 4, same, kept=[0, 3, 4]), ("unsafe", 0, 0, 4, 0, 2))
        self.same(unsafe_paper(TURNS, [0] * 4, same, bound=1), None)
        self.same(unsafe_paper(TURNS, [0] * 4, same, bound=2), ("unsafe", 0, 3, 4, 0, 2))
        self.same(unsafe_paper(TURNS, [0] * 4, same, bound=10 ** 6), ("unsafe", 0, 0, 1, 0, 2))
        self.same(unsafe_paper(TURNS, [0] * 4, same, starts=(2,)), None)
        self.same(unsafe_paper(TURNS, [0] * 4, same, starts=[1, 2]), ("unsafe", 0, 1, 2, 2, 1))
        great = [[10 ** 21, 0, 0], [10 ** 21 - 1, 1, 1], [10 ** 21, 2, 2]]
        self.same(unsafe_paper(TURNS, [0, 0], great), ("unsafe", 0, 0, 2, 0, 1))

    def test_the_least_ages_with_a_mark_between(self):
        # The first two ages of mark 0 have met; the third one is parted from both.
        marking = [(0, 5, 9), (1, 6, 9), (1, 7, 9), (0, 5, 9), (0, 6, 9)]
        self.same(unsafe_paper(TURNS, [0] * 4, marking), ("unsafe", 0, 0, 4, 0, 2))

    def test_errors_in_order(self):
        good = [(0, 0, 0)] * 3
        for call, rest in ((is_safe_marking, ()), (unsafe_paper, ()), (unsafe_holds, (None,))):
            self.fails(BadLog, -1, call, TURNS, 0, None, *rest, starts=0)
            for value in (*ODD, (), good[:2], good * 2, [*good[:2], 0], [*good[:2], None], [*good[:2], (0, 0)],
                          [*good[:2], (0, 0, 0, 0)], [(0, 0, -1), *good[:2]], [(0, 0, True), *good[:2]],
                          [(None, 0, 0), *good[:2]], [("0", 0, 0), *good[:2]], "000"):
                self.fails(Refused, value, call, TURNS, (0, 0), value, *rest, starts=0, kept=0, bound=0)
            self.options_fail(Refused, ODD, ALL, call, TURNS, (0, 0), good, *rest)
        self.options_fail(Refused, ODD, ALL, unsafe_holds, TURNS, (0, 0), good, ("unsafe", 0, 0, 1, 0, 2))

    def test_holds(self):
        same = [(0, 0, 0)] * 3
        for value in (("unsafe", 0, 0, 1, 0, 2), ["unsafe", 0, 0, 1, 0, 2], ("unsafe", 2, 1, 2, 1, 0)):
            self.same(unsafe_holds(TURNS, (0, 0), same, value), True)
        paper = ("unsafe", 0, 0, 1, 0, 2)
        self.same(unsafe_holds(TURNS, [1], [[4] * 3] * 2, ("unsafe", 1, 0, 1, 1, 1)), False)
        # Any start that shows the state will do, if it may have been first.
        machine = Machine([(1, 0, 0)])
        self.same(unsafe_holds(machine, [0], [[4] * 3] * 2, ("unsafe", 0, 0, 1, 0, 2)), True)
        self.same(unsafe_holds(machine, [0], [[4] * 3] * 2, ("unsafe", 0, 0, 1, 0, 2), starts=[0, 1]), False)
        self.same(unsafe_holds(TURNS, (0, 0), same, paper, starts=[0]), False)
        self.same(unsafe_holds(TURNS, (0, 0), same, paper, kept=[0, 2]), False)
        self.same(unsafe_holds(TURNS, (0, 0), same, value=paper, bound=2), False)
        self.same(unsafe_holds(TURNS, (0, 0), [(0, 0, 0), (1, 0, 0), (0, 0, 0)], paper), False)
        self.same(unsafe_holds(TURNS, (0, 0), same, ("unsafe", 0, 1, 0, 2, 0)), False)
        for value in ODD:
            self.same(unsafe_holds(TURNS, (0, 0), same, value), False)

    def test_the_rules_are_safe(self):
        for machine, log, _, starts, kept, bound in drawn_cases(61, 100):
            options = {"starts": starts, "kept": kept}
            rows = [path_marks(machine, log, state, **options) for state in range(machine.states)]
            if bound is not None:
                rows = [bounded_marks(machine, log, state, bound, **options) for state in range(machine.states)]
            marking = [[row[age] or 0 for row in rows] for age in range(len(log) + 1)]
            self.same(is_safe_marking(machine, log, marking, **options, bound=bound), True)

    def test_drawn(self):
        draw = random.Random(62)
        found = 0
        for machine, log, _, starts, kept, bound in drawn_cases(62, 300):
            marking = drawn_marking(draw, machine, log, draw.choice((1, 2, 3, 9)))
            options = {"starts": starts, "kept": kept, "bound": bound}
            told = first_unsafe(machine, log, marking, starts, kept, bound)
            self.same(unsafe_paper(machine, log, marking, **options), told)
            self.same(is_safe_marking(machine, log, marking, **options), told is None)
            if told is not None:
                found += 1
                self.same(unsafe_holds(machine, log, marking, told, **options), True)
                for value in bent(told):
                    self.same(unsafe_holds(machine, log, marking, value, **options),
                              tells_unsafe(machine, log, marking, value, starts, kept, bound))
        self.assertGreater(found, 40)


class LimitTest(Case):
    def test_long_log(self):
        ring = Machine([tuple((state + 1) % 12 for state in range(12)), (1, *range(1, 12))])
        log = [0, 0, 1] * 133
        marking = [[age] * 12 for age in range(400)]
        self.same(is_safe_marking(ring, log, marking), True)
        marking[399] = marking[0]
        self.same(unsafe_holds(ring, log, marking, unsafe_paper(ring, log, marking)), True)
        self.same(read_copy(ring, [0] * 400, 3, 7), 0)
