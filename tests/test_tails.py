"""Promise 33: how much of a log's end is enough for copies of told ages."""

import random

from agedcopy.errors import BadCopy, BadLog, NoState, Refused
from agedcopy.machines import Machine
from agedcopy.tails import needed_place, return_ages, tail_place
from tests.helpers import ODD, TURNS, Case, drawn_log, led, machines

HALL = Machine([(1, 2, 2), (0, 0, 0), (0, 2, 1)])


def place(machine, log, state, age):
    """The latest age from which on the deeds lead a state to what the copy comes to."""
    now = led(machine, state, log[age:])
    return max(at for at in range(len(log) + 1) if led(machine, state, log[at:]) == now)


class TailTest(Case):
    def test_examples(self):
        self.same(return_ages(HALL, (2, 2, 0, 2, 2), 1, 0), (0, 2, 4))
        self.same(tail_place(HALL, (0, 1, 0), 2, 0), 1)
        self.same(needed_place(HALL, (0, 1, 0), [(2, 0), (1, 3)]), 1)

    def test_edges(self):
        self.same((return_ages(HALL, (), 1, 0), tail_place(HALL, [], 1, 0), needed_place(HALL, (), [])), ((0,), 0, 0))
        self.same(return_ages(machine=HALL, log=[2, 2], state=1, age=2), (2,))
        self.same((tail_place(machine=HALL, log=[0, 1], state=0, age=2), tail_place(HALL, [0, 1], 0, 0)), (2, 2))
        self.same(return_ages(HALL, [1] * 3, 0, 1), (1, 2, 3))
        self.same(needed_place(machine=HALL, log=[0, 1, 0], copies=()), 3)
        self.same(needed_place(HALL, [0, 1, 0], [[0, 3], [1, 3]]), 3)
        self.same(needed_place(HALL, [0, 1, 0], ([2, 0], (2, 0))), 1)

    def test_the_copy_need_not_be_possible(self):
        # No start is in state 1 behind the second deed.
        self.same(return_ages(HALL, (1, 2), 1, 1), (1,))
        self.same(return_ages(HALL, (1, 2, 2), 1, 1), (1, 3))
        self.same(tail_place(HALL, (1, 0), 1, 1), 1)

    def test_the_place_may_be_no_age_of_return(self):
        # From age 1 on the deeds lead the state to where the copy comes, but it is not back then.
        self.same((return_ages(HALL, (0, 1), 1, 0), tail_place(HALL, (0, 1), 1, 0)), ((0,), 1))
        self.same((return_ages(HALL, (0, 1, 0), 2, 0), tail_place(HALL, (0, 1, 0), 2, 0)), ((0, 1), 1))
        self.same((return_ages(HALL, (0, 1, 2), 0, 0), tail_place(HALL, (0, 1, 2), 0, 0)), ((0, 2, 3), 3))

    def test_errors_in_order(self):
        for call in (return_ages, tail_place):
            self.fails(BadLog, 1, call, HALL, (0, 3), None, None)
            for value in (*ODD, 3):
                self.fails(NoState, value, call, HALL, (0, 0), value, None)
                self.fails(Refused, value, call, HALL, (0, 0), 0, value)
        self.fails(BadLog, -1, needed_place, HALL, 0, None)
        for value in (None, True, "", 0, -1, [0], [None], [()], [(0,)], [(0, 0, 0)], [(3, 0)], [(0, 3)], [(-1, 0)],
                      [(0, -1)], [(0, 0), (0, 3)], ((0, 0), 0), [(True, 0)], [(0, False)], ["00"], "00",
                      [(0, None)], [((0, 0),)], HALL, [HALL], [(HALL, 0)], [(0, 10 ** 30)]):
            self.fails(BadCopy, value, needed_place, HALL, (0, 0), value)
        for value in [value for value in ODD if value != [[0, 1]]]:
            self.fails(BadCopy, value, needed_place, HALL, (0, 0), value)

    def test_drawn(self):
        draw = random.Random(110)
        places = set()
        for machine in machines(110, 150, 4, 3):
            log = drawn_log(draw, machine, 8)
            copies = []
            for state in range(machine.states):
                for age in range(len(log) + 1):
                    told = tuple(at for at in range(age, len(log) + 1) if led(machine, state, log[age:at]) == state)
                    self.same(return_ages(machine, log, state, age), told)
                    self.same(tail_place(machine, log, state, age), place(machine, log, state, age))
                    copies.append((state, age))
            some = draw.sample(copies, draw.randint(0, min(3, len(copies))))
            told = min([place(machine, log, *copy) for copy in some], default=len(log))
            places.add(told == len(log))
            self.same(needed_place(machine, log, some), told)
        self.assertEqual(places, {True, False})

    def test_now_and_whatever_comes(self):
        draw = random.Random(111)
        for machine in machines(111, 60, 4, 3):
            log, more = drawn_log(draw, machine, 6), drawn_log(draw, machine, 6)
            for state in range(machine.states):
                at = tail_place(machine, log, state, 0)
                self.same(led(machine, state, log[at:] + more), led(machine, state, log + more))

    def test_limits(self):
        ring = Machine([tuple((state + 1) % 12 for state in range(12))])
        self.same(return_ages(ring, [0] * 400, 5, 7)[-1], 391)
        self.same(tail_place(ring, [0] * 400, 5, 7), 391)
        copies = [(state, age) for state in range(12) for age in range(401)]
        self.same(needed_place(ring, [0] * 400, copies), 389)
        self.same(needed_place(TURNS, [0] * 399 + [1], [(state, 0) for state in range(3)]), 399)
