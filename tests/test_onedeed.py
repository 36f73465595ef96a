"""Promises 31 and 32: machines of one deed, exchanges."""

import random
from math import lcm

from agedcopy.errors import Refused
from agedcopy.forests import least_marks
from agedcopy.machines import Machine
from agedcopy.onedeed import one_marks, one_rows, one_wrap, orbit_sizes
from agedcopy.tokens import all_most
from agedcopy.wrapping import is_enough, least_wrap
from tests.helpers import RING, TURNS, WORN, Case, led

RINGS = Machine([(1, 0, 3, 4, 2, 2)])
# Rings of two, three and five states.
CLOCKS = Machine([(1, 0, 3, 4, 2, 6, 7, 8, 9, 5)])
TWO_DEEDS = (TURNS, WORN, Machine([(0,), (0,)]), Machine([(1, 0)] * 8))


def row(machine, state):
    """Word by word, with more deeds than there are states."""
    returns = [many for many in range(1, 15) if led(machine, state, (0,) * many) == state]
    if returns:
        return ("ring", returns[0])
    return ("way", max(many for many in range(15) for start in range(machine.states)
                       if led(machine, start, (0,) * many) == state))


def one_deed_machines(seed, number, states):
    draw = random.Random(seed)
    for _ in range(number):
        many = draw.randint(1, states)
        table = [draw.randrange(many) for _ in range(many)]
        if draw.randrange(2):
            # A long way into a ring, or several rings.
            table = [state + 1 for state in range(many - 1)] + [draw.randrange(many)]
            for _ in range(draw.randrange(3)):
                one, other = draw.randrange(many), draw.randrange(many)
                table[one], table[other] = table[other], table[one]
        yield Machine([table])


class OneDeedTest(Case):
    def test_examples(self):
        self.same(one_rows(RINGS), (("ring", 2), ("ring", 2), ("ring", 3), ("ring", 3), ("ring", 3), ("way", 0)))
        self.same((one_marks(RINGS), one_wrap(RINGS)), ((2, 2, 3, 3, 3, 1), 6))
        self.same((max(one_marks(CLOCKS)), one_wrap(CLOCKS)), (5, 30))

    def test_edges(self):
        one = Machine([(0,)])
        self.same((one_rows(one), one_marks(one), one_wrap(one)), ((("ring", 1),), (1,), 1))
        way = Machine([(1, 2, 3, 3)])
        self.same(one_rows(machine=way), (("way", 0), ("way", 1), ("way", 2), ("ring", 1)))
        self.same((one_marks(machine=way), one_wrap(machine=way)), ((1, 2, 3, 1), 3))
        # The ring's length itself is not greater than all ways, or just is.
        self.same(one_wrap(Machine([(1, 2, 3, 4, 3)])), 4)
        self.same(one_wrap(Machine([(1, 2, 3, 2)])), 2)
        self.same(one_wrap(Machine([(1, 2, 0, 4, 5, 6, 3, 8, 9, 10, 11, 7)])), 60)
        self.same(one_wrap(Machine([tuple((state + 1) % 12 for state in range(12))])), 12)

    def test_the_greatest_way(self):
        self.same(one_rows(Machine([(1, 3, 3, 3)])), (("way", 0), ("way", 1), ("way", 0), ("ring", 1)))
        self.same(one_rows(Machine([(3, 0, 3, 4, 4)])), (("way", 1), ("way", 0), ("way", 0), ("way", 2), ("ring", 1)))

    def test_errors(self):
        for machine in TWO_DEEDS:
            for call in (one_rows, one_marks, one_wrap):
                self.fails(Refused, machine, call, machine)

    def test_drawn(self):
        for machine in one_deed_machines(100, 150, 12):
            rows = tuple(row(machine, state) for state in range(machine.states))
            self.same(one_rows(machine), rows)
            told = tuple(least_marks(machine, (0,) * 25, state) for state in range(machine.states))
            self.same(one_marks(machine), told)
            rings = lcm(*[number for word, number in rows if word == "ring"])
            ways = [number for word, number in rows if word == "way"]
            self.same(one_wrap(machine), next(many for many in range(rings, 100, rings) if many > max(ways, default=0)))

    def test_the_least_number_that_is_enough(self):
        for machine in one_deed_machines(101, 60, 9):
            self.same(one_wrap(machine), least_wrap(machine))
            self.same(is_enough(machine, one_wrap(machine)), True)
            if machine.states < 9:
                self.same(one_marks(machine), all_most(machine))


class ExchangesTest(Case):
    def test_example(self):
        self.same(orbit_sizes(Machine([(1, 0, 2), (0, 2, 1)])), (3, 3, 3))

    def test_edges(self):
        self.same(orbit_sizes(Machine([(0,)])), (1,))
        self.same(orbit_sizes(machine=Machine([(0, 1, 2)] * 8)), (1, 1, 1))
        self.same(orbit_sizes(RING), (4, 4, 4, 4))
        self.same(orbit_sizes(Machine([(1, 0, 2, 3, 4), (0, 1, 3, 2, 4)])), (2, 2, 2, 2, 1))
        self.same(orbit_sizes(Machine([(1, 0, 2, 3, 4), (0, 2, 1, 3, 4)])), (3, 3, 3, 1, 1))
        twelve = Machine([(1, 2, 0, *range(3, 12)), (*range(3), 4, 5, 6, 7, 8, 9, 10, 11, 3)])
        self.same(orbit_sizes(twelve), (3,) * 3 + (9,) * 9)

    def test_errors(self):
        for machine in (TURNS, WORN, RINGS, Machine([(1, 0), (0, 0)]), Machine([(1, 0), (1, 1)]),
                        Machine([(0, 1, 2), (2, 1, 2)])):
            self.fails(Refused, machine, orbit_sizes, machine)

    def test_drawn(self):
        draw = random.Random(102)
        for _ in range(60):
            many = draw.randint(1, 8)
            tables = []
            for _ in range(draw.randint(1, 3)):
                table = list(range(many))
                for _ in range(draw.randint(0, 3)):
                    one, other = draw.randrange(many), draw.randrange(many)
                    table[one], table[other] = table[other], table[one]
                tables.append(table)
            machine = Machine(tables)
            self.same(orbit_sizes(machine), all_most(machine))
