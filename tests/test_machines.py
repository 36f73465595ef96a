"""Promises 1, 2, 3, 5 and 6: machines, logs as arguments, starts."""

import random

from agedcopy.errors import BadLog, BadMachine, NoDeed, NoState, Refused
from agedcopy.machines import Machine, check_log, check_starts, done, state_after, step
from tests.helpers import ODD, TURNS, WORN, Case, drawn_log, led, machines


class MachineTest(Case):
    def test_attributes(self):
        machine = Machine([[1, 2, 2], (0, 0, 1)])
        self.same((machine.deeds, machine.states), (2, 3))
        self.same(machine.tables, ((1, 2, 2), (0, 0, 1)))
        self.same(Machine(tables=((0,),)).tables, ((0,),))

    def test_limits(self):
        row = tuple(range(12))
        self.same(Machine([row] * 8).tables, (row,) * 8)
        self.fails(BadMachine, -1, Machine, [row] * 9)
        self.fails(BadMachine, -1, Machine, [])
        self.fails(BadMachine, 0, Machine, [tuple(range(13))])
        self.fails(BadMachine, 0, Machine, [()])

    def test_equal(self):
        self.assertTrue(Machine([(0, 1)]) == Machine([[0, 1]]))
        self.assertFalse(Machine([(0, 1)]) == Machine([(1, 0)]))
        self.assertFalse(Machine([(0, 1)]) == Machine([(0, 1), (0, 1)]))
        self.assertTrue(Machine([(0, 1)]) != Machine([(1, 0)]))
        for value in (*ODD, ((0, 1),), [[0, 1]], object()):
            if not isinstance(value, Machine):
                self.assertFalse(Machine([(0, 1)]) == value)
                self.assertFalse(value == Machine([(0, 1)]))

    def test_no_sequence(self):
        for value in (None, True, 0, 3, "", "01", Machine([(0,)]), {}):
            self.fails(BadMachine, -1, Machine, value)

    def test_items_that_are_no_tables(self):
        for item in (*ODD, [2, 0], (0, -1), (0, True), [0, None], (0, "1"), [0, [1]], 0):
            self.fails(BadMachine, 0, Machine, [item, (0, 1)])
            self.fails(BadMachine, 1, Machine, ((0, 1), item))
            self.fails(BadMachine, 2, Machine, ((0, 1), [1, 0], item, item))

    def test_tables_of_another_length(self):
        self.fails(BadMachine, 1, Machine, [(0, 1), (0,), (0, 5)])
        self.fails(BadMachine, 2, Machine, [(0, 1), (0, 1), (0, 1, 2)])

    def test_later_changes_of_the_argument(self):
        tables = [[1, 0]]
        machine = Machine(tables)
        tables[0][0] = 0
        tables.append([0, 0])
        self.same(machine.tables, ((1, 0),))


class LogTest(Case):
    def test_log_as_tuple(self):
        self.same(check_log(WORN, [0, 1]), (0, 1))
        self.same(check_log(machine=WORN, value=()), ())

    def test_greatest_length(self):
        self.same(check_log(WORN, [1] * 10000), (1,) * 10000)
        self.fails(BadLog, -1, check_log, WORN, [1] * 10001)
        self.fails(BadLog, -1, check_log, WORN, [9] * 10001)

    def test_no_sequence(self):
        for value in (None, True, False, 0, 1, "", "0", WORN):
            self.fails(BadLog, -1, check_log, WORN, value)
            self.fails(BadLog, -1, done, WORN, value)
            self.fails(BadLog, -1, state_after, WORN, 0, value)

    def test_first_item_that_is_no_deed(self):
        for item in (*ODD, 2, [0], ()):
            self.fails(BadLog, 0, check_log, WORN, [item, 0])
            self.fails(BadLog, 2, check_log, WORN, (0, 1, item, item))
            self.fails(BadLog, 1, done, WORN, (0, item))
            self.fails(BadLog, 1, state_after, WORN, 0, (0, item))


class StepTest(Case):
    def test_step(self):
        for state in range(3):
            for deed in range(2):
                self.same(step(WORN, state, deed), WORN.tables[deed][state])
        self.same(step(machine=WORN, deed=1, state=2), 1)

    def test_no_state_ahead_of_no_deed(self):
        for value in (*ODD, 3, [0]):
            self.fails(NoState, value, step, WORN, value, 0)
            self.fails(NoState, value, step, WORN, value, None)
            self.fails(NoState, value, state_after, WORN, value, None)
        for value in (*ODD, 2, [0]):
            self.fails(NoDeed, value, step, WORN, 0, value)

    def test_examples(self):
        self.same(done(WORN, (0, 1)), (0, 1, 1))
        self.same(state_after(WORN, 0, (0, 0, 1)), 1)

    def test_empty_log(self):
        self.same(done(WORN, ()), (0, 1, 2))
        self.same(state_after(WORN, 2, []), 2)

    def test_state_after_and_done_deed_by_deed(self):
        draw = random.Random(5)
        for machine in machines(5, 60, 12, 8):
            log = drawn_log(draw, machine, 30)
            told = tuple(led(machine, state, log) for state in range(machine.states))
            self.same(done(machine, log), told)
            self.same(done(machine=machine, log=list(log)), told)
            self.same(tuple(state_after(machine, state, log) for state in range(machine.states)), told)

    def test_long_logs(self):
        ring = Machine([tuple((state + 1) % 12 for state in range(12))])
        self.same(done(ring, [0] * 10000), tuple((state + 10000) % 12 for state in range(12)))
        self.same(state_after(ring, log=(0,) * 9999, state=0), 9999 % 12)

    def test_arguments_stay(self):
        log = [0, 1, 0]
        done(WORN, log)
        state_after(WORN, 0, log)
        self.same(log, [0, 1, 0])


class StartsTest(Case):
    def test_none_is_all(self):
        self.same(check_starts(TURNS, None), (0, 1, 2))
        self.same(check_starts(machine=Machine([(0,)]), value=None), (0,))

    def test_told(self):
        for value in ([0], (2,), [0, 2], (0, 1, 2)):
            self.same(check_starts(TURNS, value), tuple(value))

    def test_wrong(self):
        for value in (*ODD, (), [], [0, 0], (1, 0), [0, 3], [0, True], (0, 1, 2, 2), [False, 1], 0, 1):
            if value is not None:
                self.fails(Refused, value, check_starts, TURNS, value)

    def test_the_error_keeps_the_value_itself(self):
        value = [2, 1]
        with self.assertRaises(Refused) as caught:
            check_starts(TURNS, value)
        self.assertIs(caught.exception.at, value)
