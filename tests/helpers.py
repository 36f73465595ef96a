"""What the tests share: any values, machines drawn from a seed, and a check of errors."""

import itertools
import random
import unittest

from agedcopy.machines import Machine


def nested(depth):
    """Lists and tuples in each other, so deep."""
    value = ()
    for level in range(depth):
        value = [value] if level % 2 else (value,)
    return value


# Values that are no integer, no sequence of integers and no text of this package.
ODD = (None, True, False, "", "0", "reset", [None], [True], [False], ["0"], ([0],), [[0, 1]], nested(40),
       Machine([(0,)]), (Machine([(0,)]),), -1, [-1], 10 ** 30, [10 ** 30])

TURNS = Machine([(1, 2, 0), (0, 0, 0)])
WORN = Machine([(1, 2, 2), (0, 0, 1)])
RING = Machine([(1, 2, 3, 0)])


def drawn_machine(draw, states, deeds):
    """A machine of at most so many states and deeds; one of three only changes places."""
    many = draw.randint(1, states)
    tables = []
    for _ in range(draw.randint(1, deeds)):
        table = [draw.randrange(many) for _ in range(many)]
        if draw.randrange(3) == 0:
            table = draw.sample(range(many), many)
        tables.append(table)
    return Machine(tables)


def drawn_log(draw, machine, length):
    return tuple(draw.randrange(machine.deeds) for _ in range(draw.randint(0, length)))


def drawn_part(draw, many, least=0):
    """Some ascending numbers below `many`."""
    return tuple(sorted(draw.sample(range(many), draw.randint(least, many))))


def machines(seed, number, states=4, deeds=3):
    draw = random.Random(seed)
    return [drawn_machine(draw, states, deeds) for _ in range(number)]


def logs_to(machine, length):
    """All logs of at most so many deeds, the shortest first, then by size."""
    for many in range(length + 1):
        yield from itertools.product(range(machine.deeds), repeat=many)


def led(machine, state, log):
    """Where a log leads a state, told by its tables alone."""
    for deed in log:
        state = machine.tables[deed][state]
    return state


class Case(unittest.TestCase):
    def same(self, found, told):
        """Equal, and of the same kinds within: True is no 1, a list is no tuple."""
        self.assertEqual(repr(found), repr(told))
        self.assertEqual(found, told)

    def fails(self, error, kept, call, /, *args, **named):
        """The call raises just this error, which keeps just this argument."""
        with self.assertRaises(error) as caught:
            call(*args, **named)
        self.assertIs(type(caught.exception), error)
        names = {"NoState": "state", "NoDeed": "deed", "TooGreat": "most"}
        found = getattr(caught.exception, names.get(error.__name__, "at"))
        if isinstance(kept, int):
            self.same(found, kept)
        else:
            self.assertIs(found, kept)
