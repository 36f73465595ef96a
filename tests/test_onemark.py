"""Promises 21 and 26: whether copies need marks at all."""

import itertools
import random

from agedcopy.errors import Refused
from agedcopy.machines import Machine, done
from agedcopy.onemark import is_one_mark, one_mark_paper, parted_holds
from agedcopy.tokens import all_most
from tests.helpers import (ODD, RING, TURNS, WORN, Case, bent, drawn_part, is_below, is_log, is_row, led, logs_to,
                           machines)
from tests.plain import are_met, counting

DOWN = Machine([(0, 0, 1, 2), (3, 1, 2, 3)])
SETS = Machine([(0, 0, 2), (1, 1, 2)])


def parted_ages(machine, log, starts):
    """All (state, ages) of a log that are parted."""
    return [(state, ages) for state in range(machine.states)
            for ages in itertools.combinations(counting(machine, log, state, starts, None, None), 2)
            if not are_met(machine, log, *ages, state)]


def tells_parted(machine, value, starts):
    if not is_row(value, 4) or value[0] != "two" or not is_below(value[1], machine.states):
        return False
    _, state, log, ages = value
    if not is_log(machine, log) or not is_row(ages, 2):
        return False
    return (is_below(ages[0], len(log) + 1) and is_below(ages[1], len(log) + 1) and ages[0] < ages[1]
            and (state, tuple(ages)) in parted_ages(machine, tuple(log), starts))


def made_logs(machine):
    """What logs do: by table of next states some log that does it."""
    found = {tuple(range(machine.states)): ()}
    queue = list(found)
    for told in queue:
        for deed, table in enumerate(machine.tables):
            later = tuple(table[state] for state in told)
            if later not in found:
                found[later] = (*found[told], deed)
                queue.append(later)
    return found


class OneMarkTest(Case):
    def test_examples(self):
        self.same(one_mark_paper(SETS), ("one",))
        self.same(is_one_mark(SETS), True)
        self.same(is_one_mark(DOWN, starts=[2]), True)
        self.same(parted_holds(DOWN, ["two", 1, [0], [0, 1]]), True)

    def test_edges(self):
        self.same(one_mark_paper(Machine([(0,)] * 8)), ("one",))
        self.same(one_mark_paper(Machine([(0, 1, 2)])), ("one",))
        self.same(one_mark_paper(Machine([(1, 0)]), starts=(1,)), ("one",))
        self.same(one_mark_paper(machine=Machine([(1, 0)]), starts=None)[2:], ((0,), (0, 1)))
        self.same(is_one_mark(Machine([(1, 1, 2)])), True)
        self.same(is_one_mark(Machine([(1, 2, 2)])), False)

    def test_the_copy_is_not_kept_first(self):
        # State 1 is shown first behind a deed.
        machine = Machine([(1, 2, 2, 3)])
        self.same(one_mark_paper(machine, starts=[0, 3]), ("one",))
        late = Machine([(2, 1, 3, 3, 1)])
        self.same(one_mark_paper(late, starts=[0, 4]), ("one",))
        late = Machine([(2, 4, 3, 3, 2)])
        self.same(one_mark_paper(late, starts=[0, 1]), ("two", 2, (0, 0), (1, 2)))

    def test_errors(self):
        for call, rest in ((one_mark_paper, ()), (is_one_mark, ()), (parted_holds, (None,)),
                           (parted_holds, (("two", 1, (0,), (0, 1)),))):
            for value in (*ODD, (), [], [1, 0], [0, 0], [4], 0):
                if value is not None:
                    self.fails(Refused, value, call, DOWN, *rest, starts=value)

    def test_holds(self):
        for value in (("two", 1, (0,), (0, 1)), ["two", 1, [0, 1, 1], (0, 1)], ("two", 1, (1, 1, 0), [2, 3])):
            self.same(parted_holds(DOWN, value), True)
        self.same(parted_holds(machine=DOWN, value=("two", 1, (0,), (0, 1)), starts=[1]), False)
        self.same(parted_holds(DOWN, ("two", 1, (0,), (0, 1)), starts=[1, 2]), True)
        long = ("two", 0, (0,) * 9999, (0, 9999))
        self.same(parted_holds(Machine([(1, 0)]), long), True)
        self.same(parted_holds(Machine([(1, 0)]), ("two", 0, (0,) * 10001, (0, 1))), False)
        for value in (*ODD, (), ("one",), ("two",), ("two", 1, (0,), (1, 0)), ("two", 1, (0,), (0, 0)),
                      ("two", 1, (0,), (0, 2)), ("two", 1, (2,), (0, 1)), ("two", 4, (0,), (0, 1)),
                      ("two", 0, (0,), (0, 1)), ("two", 1, (0,), (0, 1), ())):
            self.same(parted_holds(DOWN, value), False)

    def test_drawn(self):
        draw = random.Random(70)
        shortest = set()
        for machine in machines(70, 250, 4, 3):
            starts = draw.choice([None, drawn_part(draw, machine.states, 1)])
            paper = one_mark_paper(machine, starts=starts)
            self.same(is_one_mark(machine, starts=starts), paper == ("one",))
            length = 4 if paper == ("one",) else len(paper[2]) - 1
            for log in logs_to(machine, min(length, 4)):
                self.assertEqual(parted_ages(machine, log, starts), [])
            if paper != ("one",):
                shortest.add(len(paper[2]))
                self.same(parted_holds(machine, paper, starts=starts), True)
                for value in bent(paper):
                    self.same(parted_holds(machine, value, starts=starts), tells_parted(machine, value, starts))
        self.assertLessEqual({1, 2, 3}, shortest)

    def test_it_holds(self):
        found = set()
        for machine in (*machines(71, 300, 4, 3), TURNS, WORN, RING, DOWN, SETS):
            one = is_one_mark(machine)
            found.add(one)
            logs = list(made_logs(machine).values())
            twice = all(done(machine, log * 2) == done(machine, log) for log in logs)
            self.assertEqual(one, twice)
            states = range(machine.states)
            self.assertEqual(one, not any(led(machine, p, log) == r != led(machine, r, log) and p != r
                                          for log in logs for p in states for r in states))
            self.assertEqual(one, set(all_most(machine)) <= {0, 1})
        self.assertEqual(found, {True, False})
