"""Promise 8: views, and machines of others."""

import itertools
import random

from agedcopy.errors import Refused, TooGreat
from agedcopy.machines import Machine
from agedcopy.views import (beside_machines, check_view, finest_view, part_machine, together_machines, unlike_step,
                            viewed_machine)
from tests.helpers import ODD, RING, WORN, Case, drawn_part, machines

# No groupings of three states.
NO_GROUPING = (*ODD, (), (0, 0), (0, 0, 0, 0), (1, 0, 0), (0, 2, 1), (0, 1, 3), (0, 0, 2), (0, 0, True), [0, False, 1],
               (0, None, 0), (0, "0", 0), (0, -1, 0), "000", 0)


def groupings(states):
    """All groupings of so many states, the ones of most groups first."""
    found = [(0,)]
    for _ in range(states - 1):
        found = [row + (group,) for row in found for group in range(max(row) + 2)]
    return sorted(found, key=lambda row: -max(row))


def unlike(machine, grouping):
    for deed, table in enumerate(machine.tables):
        for one, other in itertools.combinations(range(machine.states), 2):
            if grouping[one] == grouping[other] and grouping[table[one]] != grouping[table[other]]:
                return (deed, (one, other))
    return None


class ViewTest(Case):
    def test_examples(self):
        self.same(unlike_step(WORN, (0, 0, 1)), (0, (0, 1)))
        self.same(finest_view(RING, [(0, 2)]), (0, 1, 0, 1))

    def test_edges(self):
        self.same(unlike_step(WORN, [0, 1, 2]), None)
        self.same(unlike_step(WORN, value=(0, 0, 0)), None)
        self.same(check_view(machine=WORN, value=[0, 0, 0]), (0, 0, 0))
        self.same(check_view(Machine([(0,)]), [0]), (0,))

    def test_no_grouping(self):
        for value in NO_GROUPING:
            self.fails(Refused, value, unlike_step, WORN, value)
            self.fails(Refused, value, check_view, WORN, value)
            self.fails(Refused, value, viewed_machine, WORN, value)

    def test_no_view(self):
        for value in ((0, 0, 1), [0, 0, 1]):
            self.fails(Refused, value, check_view, WORN, value)
            self.fails(Refused, value, viewed_machine, WORN, value)

    def test_all_groupings(self):
        for machine in machines(8, 40, 5, 3):
            for grouping in groupings(machine.states):
                told = unlike(machine, grouping)
                self.same(unlike_step(machine, grouping), told)
                if told is None:
                    self.same(check_view(machine, list(grouping)), grouping)
                    self.check_viewed(machine, grouping)
                else:
                    self.fails(Refused, grouping, check_view, machine, grouping)

    def check_viewed(self, machine, view):
        viewed = viewed_machine(machine, view)
        self.same((viewed.states, viewed.deeds), (max(view) + 1, machine.deeds))
        for deed, table in enumerate(machine.tables):
            for state, later in enumerate(table):
                self.same(viewed.tables[deed][view[state]], view[later])

    def test_viewed_ring(self):
        self.same(viewed_machine(RING, view=[0, 1, 0, 1]).tables, ((1, 0),))


class FinestViewTest(Case):
    def test_edges(self):
        self.same(finest_view(RING, []), (0, 1, 2, 3))
        self.same(finest_view(RING, ()), (0, 1, 2, 3))
        self.same(finest_view(RING, [(2, 2)]), (0, 1, 2, 3))
        self.same(finest_view(machine=RING, pairs=([2, 0],)), (0, 1, 0, 1))
        self.same(finest_view(RING, [(0, 1)]), (0, 0, 0, 0))
        self.same(finest_view(Machine([(0, 1, 2, 3, 4)]), [(4, 2), (1, 2)]), (0, 1, 1, 2, 1))

    def test_wrong(self):
        for value in (*ODD, 0, (0, 2), [(0,)], [(0, 1, 2)], [(0, 4)], [(0, -1)], [(0, True)], [(0, 1), None],
                      [(0, 1), ()], [("0", 1)], ((0, (1,)),), [(0, 1), (0, 1), "01"]):
            if value == [[0, 1]]:
                continue
            self.fails(Refused, value, finest_view, RING, value)

    def test_drawn(self):
        draw = random.Random(9)
        for machine in machines(9, 80, 5, 2):
            pairs = [(draw.randrange(machine.states), draw.randrange(machine.states)) for _ in range(draw.randint(0, 2))]
            told = next(row for row in groupings(machine.states)
                        if unlike(machine, row) is None and all(row[one] == row[other] for one, other in pairs))
            self.same(finest_view(machine, pairs), told)
            self.same(finest_view(machine, tuple(map(list, pairs))), told)


class OthersTest(Case):
    def test_example(self):
        self.same(together_machines(Machine([(1, 0)]), Machine([(1, 0)])).tables, ((3, 2, 1, 0),))

    def test_beside(self):
        machine = beside_machines(Machine([(1, 0)]), other=Machine([(1, 2, 0), (0, 0, 2)]))
        self.same(machine.tables, ((3, 4, 5, 0, 1, 2), (1, 2, 0, 4, 5, 3), (0, 0, 2, 3, 3, 5)))

    def test_drawn(self):
        for one, other in zip(machines(10, 40, 3, 3), machines(11, 40, 4, 3)):
            beside = beside_machines(one, other)
            self.same((beside.deeds, beside.states), (one.deeds + other.deeds, one.states * other.states))
            for p, q in itertools.product(range(one.states), range(other.states)):
                at = p * other.states + q
                for deed, table in enumerate(one.tables):
                    self.same(beside.tables[deed][at], table[p] * other.states + q)
                for deed, table in enumerate(other.tables):
                    self.same(beside.tables[one.deeds + deed][at], p * other.states + table[q])
                if one.deeds == other.deeds:
                    together = together_machines(one, other)
                    told = tuple(table[p] * other.states + later[q] for table, later in zip(one.tables, other.tables))
                    self.same(tuple(table[at] for table in together.tables), told)

    def test_limits(self):
        three, four, five = Machine([(0, 1, 2)] * 4), Machine([(0, 1, 2, 3)] * 4), Machine([(0, 1, 2, 3)] * 5)
        self.same(beside_machines(three, four).states, 12)
        self.same(beside_machines(three, four).deeds, 8)
        self.fails(TooGreat, 8, beside_machines, four, five)
        self.fails(TooGreat, 12, beside_machines, four, four)
        self.fails(TooGreat, 12, together_machines, four, four)
        self.fails(TooGreat, 12, together_machines, one=five, other=five)
        self.same(together_machines(Machine([(0,)] * 8), Machine([(0, 1)] * 8)).deeds, 8)

    def test_unlike_numbers_of_deeds_come_first(self):
        four, five = Machine([(0, 1, 2, 3)] * 4), Machine([(0, 1, 2, 3)] * 5)
        self.fails(Refused, five, together_machines, four, five)

    def test_part(self):
        machine = Machine([(0, 3, 2, 1), (2, 1, 2, 3)])
        self.same(part_machine(machine, [1, 3]).tables, ((1, 0), (0, 1)))
        self.same(part_machine(machine=machine, states=(2,)).tables, ((0,), (0,)))
        self.same(part_machine(machine, (0, 2)).tables, ((0, 1), (1, 1)))
        self.same(part_machine(machine, (0, 1, 2, 3)) == machine, True)

    def test_part_wrong(self):
        machine = Machine([(0, 3, 2, 1), (2, 1, 2, 3)])
        for value in (*ODD, (), [], [0], (1,), [3, 1], (1, 1, 3), [1, 3, 4], [1, "3"], (2, 2), [True, 3], 2):
            self.fails(Refused, value, part_machine, machine, value)

    def test_parts_of_drawn_machines(self):
        draw = random.Random(12)
        for machine in machines(12, 80, 5, 2):
            states = drawn_part(draw, machine.states, 1)
            if all(table[state] in states for table in machine.tables for state in states):
                part = part_machine(machine, states)
                self.same(tuple(tuple(states[later] for later in table) for table in part.tables),
                          tuple(tuple(table[state] for state in states) for table in machine.tables))
            else:
                self.fails(Refused, states, part_machine, machine, states)
