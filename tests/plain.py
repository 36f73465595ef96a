"""Ages, lots and marks told as plainly as the document tells them, for comparison; slow."""

import itertools
import random

from tests.helpers import Case, drawn_log, drawn_part, led, machines


def drawn_cases(seed, number, states=4, deeds=3, length=7):
    """(machine, log, state, starts, kept, bound), each of the last three told or None."""
    draw = random.Random(seed)
    for machine in machines(seed, number, states, deeds):
        log = drawn_log(draw, machine, length)
        starts = draw.choice([None, drawn_part(draw, machine.states, 1)])
        kept = draw.choice([None, drawn_part(draw, len(log) + 1)])
        bound = draw.choice([None, draw.randint(1, length + 2)])
        yield machine, log, draw.randrange(machine.states), starts, kept, bound


def showing(machine, log, age, state, starts):
    told = range(machine.states) if starts is None else starts
    return [start for start in told if led(machine, start, log[:age]) == state]


def counting(machine, log, state, starts, kept, bound):
    """The possible ages that count."""
    ages = range(len(log) + 1) if kept is None else kept
    return [age for age in ages if (bound is None or len(log) - age < bound)
            and showing(machine, log, age, state, starts)]


def are_met(machine, log, one, other, state):
    return led(machine, state, log[one:other]) == state


def met_ahead(machine, log, state, ages, age):
    """The earlier of some ages that are met with one."""
    return [earlier for earlier in ages if earlier < age and are_met(machine, log, earlier, age, state)]


def lowest(machine, log, state, ages):
    return tuple(age for age in ages if not met_ahead(machine, log, state, ages, age))


def are_parted(machine, log, state, ages):
    return not any(are_met(machine, log, one, other, state) for one, other in itertools.combinations(ages, 2))


def marks(machine, log, state, starts, kept, bound):
    """The youngest rule: without a bound [16], with one [17]."""
    ages = counting(machine, log, state, starts, kept, None)
    found = {}
    for age in ages:
        near = [earlier for earlier in ages if earlier < age and (bound is None or earlier > age - bound)]
        met = met_ahead(machine, log, state, near, age)
        held = {found[earlier] for earlier in near}
        found[age] = found[met[-1]] if met else next(mark for mark in itertools.count() if mark not in held)
    return tuple(found.get(age) for age in range(len(log) + 1))


class OptionCase(Case):
    def options_fail(self, error, odd, names, call, *args):
        """Each named option refuses what is none; the ones behind it are not looked at before."""
        wrong = {"starts": (*odd, (), [], [1, 0], [0, 0], [9], 0), "kept": (*odd, [1, 0], (0, 0), [99], 0),
                 "bound": (*(value for value in odd if value != 10 ** 30), 0, (), [])}
        for at, name in enumerate(names):
            for value in wrong[name]:
                if value is not None:
                    self.fails(error, value, call, *args, **{name: value})
                    later = {other: wrong[other][1] for other in names[at + 1:]}
                    self.fails(error, value, call, *args, **{name: value}, **later)
        for name in names:
            call(*args, **{name: None})
