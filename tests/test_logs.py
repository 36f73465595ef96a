"""Promises 6 and 7: trails, states behind logs, resets."""

import itertools
import random

from agedcopy.errors import BadLog, NoState, Refused
from agedcopy.logs import parting_state, reset_holds, reset_paper, states_after, trail, width, width_log
from agedcopy.machines import Machine, done
from tests.helpers import ODD, TURNS, WORN, Case, drawn_log, drawn_part, led, logs_to, machines

# Twelve states that need the longest log to come to one: a ring, and a deed that joins two neighbours.
LONG = Machine([tuple((state + 1) % 12 for state in range(12)), (1, *range(1, 12))])


class TrailTest(Case):
    def test_example(self):
        self.same(trail(WORN, 0, (0, 0, 1)), (0, 1, 2, 1))
        self.same(trail(log=[], state=2, machine=WORN), (2,))

    def test_longest(self):
        self.same(len(trail(TURNS, 1, [0] * 10000)), 10001)
        self.same(trail(TURNS, 1, [0] * 10000)[-3:], (0, 1, 2))

    def test_errors(self):
        for value in (*ODD, 3):
            self.fails(NoState, value, trail, WORN, value, None)
        self.fails(BadLog, -1, trail, WORN, 0, None)
        self.fails(BadLog, 1, trail, WORN, 0, [0, 2])
        self.fails(BadLog, -1, trail, WORN, 0, [0] * 10001)

    def test_drawn(self):
        draw = random.Random(1)
        for machine in machines(1, 40, 6, 3):
            log = drawn_log(draw, machine, 9)
            told = tuple(led(machine, 0, log[:age]) for age in range(len(log) + 1))
            self.same(trail(machine, 0, log), told)


class StatesAfterTest(Case):
    def test_example(self):
        self.same(states_after(WORN, (0, 0), starts=(0, 1)), (2,))
        self.same(states_after(WORN, ()), (0, 1, 2))
        self.same(states_after(WORN, [0], starts=None), (1, 2))

    def test_starts_by_name_only(self):
        with self.assertRaises(TypeError):
            states_after(WORN, (), (0,))

    def test_errors(self):
        self.fails(BadLog, 0, states_after, WORN, [None], starts=[])
        for value in (*ODD, [], [1, 0], [3]):
            if value is not None:
                self.fails(Refused, value, states_after, WORN, (0,), starts=value)

    def test_drawn(self):
        draw = random.Random(2)
        for machine in machines(2, 60, 6, 3):
            log = drawn_log(draw, machine, 6)
            starts = drawn_part(draw, machine.states, 1)
            told = tuple(sorted({led(machine, start, log) for start in starts}))
            self.same(states_after(machine, log, starts=list(starts)), told)


class PartingStateTest(Case):
    def test_plain(self):
        self.same(parting_state(WORN, (0,), (1,)), 0)
        self.same(parting_state(WORN, (0, 0), (0, 0, 0)), None)
        self.same(parting_state(WORN, (0,), (0, 0)), 0)
        self.same(parting_state(WORN, (), (0,)), 0)
        self.same(parting_state(Machine([(0, 2, 1)]), other=[0], one=[]), 1)

    def test_errors_of_one_come_first(self):
        self.fails(BadLog, 1, parting_state, WORN, (0, 7), None)
        self.fails(BadLog, -1, parting_state, WORN, (0,), None)
        self.fails(BadLog, 0, parting_state, WORN, (0,), [True])

    def test_drawn(self):
        draw = random.Random(3)
        for machine in machines(3, 80, 4, 3):
            one, other = drawn_log(draw, machine, 3), drawn_log(draw, machine, 3)
            told = [state for state in range(machine.states)
                    if led(machine, state, one) != led(machine, state, other)]
            self.same(parting_state(machine, one, other), told[0] if told else None)


def group_sizes(machine):
    """How many states the first logs leave, by group: a walk that knows no order of logs."""
    seen = {frozenset(range(machine.states))}
    fresh = list(seen)
    while fresh:
        group = fresh.pop()
        for table in machine.tables:
            later = frozenset(table[state] for state in group)
            if later not in seen:
                seen.add(later)
                fresh.append(later)
    return {len(group) for group in seen}


def meet(machine, one, other):
    """Whether some log leads two states to one."""
    seen = {(one, other)}
    fresh = [(one, other)]
    while fresh:
        pair = fresh.pop()
        for table in machine.tables:
            later = (table[pair[0]], table[pair[1]])
            if later not in seen:
                seen.add(later)
                fresh.append(later)
    return any(one == other for one, other in seen)


class WidthTest(Case):
    def test_examples(self):
        self.same(reset_paper(WORN), ("reset", (0, 0)))
        self.same(width(Machine([(1, 2, 0)])), 3)
        self.same(reset_paper(Machine([(1, 2, 0)])), ("pair", (0, 1)))

    def test_one_state(self):
        machine = Machine([(0,), (0,)])
        self.same((width(machine), width_log(machine), reset_paper(machine)), (1, (), ("reset", ())))

    def test_nothing_to_gain(self):
        self.same(width_log(Machine([(1, 2, 0), (0, 2, 1)])), ())

    def test_least_of_the_shortest(self):
        self.same(width_log(Machine([(0, 1, 2), (1, 1, 2), (0, 2, 2), (0, 1, 1)])), (1, 2))
        self.same(width_log(Machine([(1, 0, 2), (0, 0, 2), (1, 1, 2)])), (1,))

    def test_longest(self):
        self.same(width(LONG), 1)
        log = width_log(LONG)
        self.same(len(log), 121)
        self.same(len(set(done(LONG, log))), 1)
        self.same(reset_paper(LONG), ("reset", log))

    def test_drawn(self):
        for machine in machines(4, 120, 4, 3):
            least = min(group_sizes(machine))
            self.same(width(machine), least)
            log = width_log(machine)
            self.same(len(set(done(machine, log))), least)
            if len(log) < 7:
                self.same(log, next(log for log in logs_to(machine, 6) if len(set(done(machine, log))) == least))

    def test_papers_of_drawn_machines(self):
        kinds = set()
        for machine in machines(6, 120, 5, 2):
            parted = [pair for pair in itertools.combinations(range(machine.states), 2) if not meet(machine, *pair)]
            told = ("pair", parted[0]) if parted else ("reset", width_log(machine))
            self.same(reset_paper(machine), told)
            self.same(parted == [], width(machine) == 1)
            self.same(reset_holds(machine, reset_paper(machine)), True)
            kinds.add(told[0])
        self.assertEqual(kinds, {"pair", "reset"})


class ResetHoldsTest(Case):
    def test_any_reset(self):
        self.same(reset_holds(WORN, ("reset", (0, 0))), True)
        self.same(reset_holds(WORN, ["reset", [0, 0, 1, 0, 0]]), True)
        self.same(reset_holds(machine=WORN, value=["reset", (1, 1)]), True)
        self.same(reset_holds(WORN, ("reset", (0,))), False)
        self.same(reset_holds(WORN, ("reset", (0,) * 10000)), True)
        self.same(reset_holds(WORN, ("reset", (0,) * 10001)), False)

    def test_any_pair(self):
        swap = Machine([(1, 0, 2, 2)])
        for one in range(4):
            for other in range(4):
                told = one < other and not meet(swap, one, other)
                self.same(reset_holds(swap, ("pair", (one, other))), told)
                self.same(reset_holds(swap, ["pair", [one, other]]), told)
        self.same(reset_holds(Machine([(1, 0)]), ("pair", (1, 0))), False)
        self.same(reset_holds(WORN, ("pair", (0, 1))), False)

    def test_any_value(self):
        ring = Machine([(1, 0)])
        for value in (*ODD, (), ("pair",), ("reset",), ("pair", (0, 1), ()), ("pair", 0, 1), ("pair", (0, 1, 1)),
                      ("pair", (0, 2)), ("pair", (0,)), ("pair", (False, True)), ("pair", "01"), ("pair", None),
                      ("Pair", (0, 1)), (None, (0, 1)), (("pair",), (0, 1)), "pair", ("pair", ((0,), (1,))),
                      ("reset", None), ("reset", ()), ("reset", "0"), ("reset", (True,)), ("pair", (0, None))):
            self.same(reset_holds(ring, value), False)
        for value in ODD:
            self.same(reset_holds(WORN, ("reset", value)), False)
            self.same(reset_holds(WORN, ("pair", value)), False)
            self.same(reset_holds(WORN, (value, (0, 0))), value == "reset")
