"""What the tests share: any values, machines drawn from a seed, and a check of errors."""

import itertools
import random
import unittest

from agedcopy.machines import Machine


def nested(depth):
    """Lists and tuples in each other, so deep."""
    value = ()
    for level in range(depth):
        value = [value] if level % 2 else (value,)
    return value


# Values that are no integer, no sequence of integers and no text of this package.
ODD = (None, True, False, "", "0", "reset", [None], [True], [False], ["0"], ([0],), [[0, 1]], nested(40),
       Machine([(0,)]), (Machine([(0,)]),), -1, [-1], 10 ** 30, [10 ** 30])

TURNS = Machine([(1, 2, 0), (0, 0, 0)])
WORN = Machine([(1, 2, 2), (0, 0, 1)])
RING = Machine([(1, 2, 3, 0)])


def drawn_machine(draw, states, deeds):
    """A machine of at most so many states and deeds; one of three only changes places."""
    many = draw.randint(1, states)
    tables = []
    for _ in range(draw.randint(1, deeds)):
        table = [draw.randrange(many) for _ in range(many)]
        if draw.randrange(3) == 0:
            table = draw.sample(range(many), many)
        tables.append(table)
    return Machine(tables)


def drawn_log(draw, machine, length):
    return tuple(draw.randrange(machine.deeds) for _ in range(draw.randint(0, length)))


def drawn_part(draw, many, least=0):
    """Some ascending numbers below `many`."""
    return tuple(sorted(draw.sample(range(many), draw.randint(least, many))))


def machines(seed, number, states=4, deeds=3):
    draw = random.Random(seed)
    return [drawn_machine(draw, states, deeds) for _ in range(number)]


def logs_to(machine, length):
    """All logs of at most so many deeds, the shortest first, then by size."""
    for many in range(length + 1):
        yield from itertools.product(range(machine.deeds), repeat=many)


def led(machine, state, log):
    """Where a log leads a state, told by its tables alone."""
    for deed in log:
        state = machine.tables[deed][state]
    return state


def clocked_machine(draw, states, deeds):
    """A machine whose states fall into parts, each with a clock that every deed sets on by one, but for a leak."""
    tables = [[None] * states for _ in range(draw.randint(1, deeds))]
    base = 0
    while base < states:
        many = draw.randint(1, states - base)
        hours = draw.randint(1, many)
        clock = [list(range(base + hour, base + many, hours)) for hour in range(hours)]
        for table in tables:
            for hour in range(hours):
                for state in clock[hour]:
                    table[state] = draw.choice(clock[(hour + 1) % hours])
        base += many
    if draw.randrange(3) == 0:
        for table in tables:
            table[draw.randrange(states)] = draw.randrange(states)
    return Machine(tables)


def bent(value):
    """A paper bent at one place each, in many ways; the way it stands too, as lists."""
    yield from (None, True, False, "", -1, 10 ** 30, (), [[]], nested(40))
    if isinstance(value, int):
        yield from (value + 1, value - 1, str(value))
    if isinstance(value, tuple):
        yield list(value)
        for at, item in enumerate(value):
            yield value[:at] + value[at + 1:]
            yield value[:at] + (item,) + value[at:]
            yield value[:at + 1] + value[at:at + 1:-1]
            for other in bent(item):
                yield value[:at] + (other,) + value[at + 1:]


def is_below(value, many):
    return type(value) is int and 0 <= value < many


def is_row(value, length=None):
    return type(value) in (list, tuple) and length in (None, len(value))


def is_log(machine, value):
    return is_row(value) and len(value) <= 10000 and all(is_below(deed, machine.deeds) for deed in value)


class Case(unittest.TestCase):
    def same(self, found, told):
        """Equal, and of the same kinds within: True is no 1, a list is no tuple."""
        self.assertEqual(repr(found), repr(told))
        self.assertEqual(found, told)

    def fails(self, error, kept, call, /, *args, **named):
        """The call raises just this error, which keeps just this argument."""
        with self.assertRaises(error) as caught:
            call(*args, **named)
        self.assertIs(type(caught.exception), error)
        names = {"NoState": "state", "NoDeed": "deed", "TooGreat": "most"}
        found = getattr(caught.exception, names.get(error.__name__, "at"))
        if isinstance(kept, int):
            self.same(found, kept)
        else:
            self.assertIs(found, kept)
