"""Promises 27, 28, 29 and 30: lengths, enough, the least number, none."""

import itertools
import random

from agedcopy.errors import Refused
from agedcopy.machines import Machine
from agedcopy.onemark import is_one_mark
from agedcopy.wrapping import (is_enough, least_wrap, never_holds, never_paper, parting_lengths, wrap_holds,
                               wrap_paper)
from tests.helpers import (ODD, TURNS, WORN, Case, bent, clocked_machine, drawn_part, is_below, is_log, is_row, led,
                           logs_to, machines)
from tests.plain import OptionCase

RINGS = Machine([(1, 0, 3, 4, 2, 2)])
CELL = Machine([(1, 0), (0, 1)])
# Rings of three, four and five states; and a machine of twelve states of which none is ever left.
CLOCKS = Machine([(1, 2, 0, 4, 5, 6, 3, 8, 9, 10, 11, 7)])
STILL = Machine([tuple(range(12))] * 2)
WRONG_STATES = (*[value for value in ODD if value is not None], (), [], [1, 0], [0, 0], [12], 0)


def parts(machine, states, log):
    """Whether a log parts some of the states from itself."""
    return any(led(machine, other, log) == state != led(machine, state, log)
               for state in (range(machine.states) if states is None else states) for other in range(machine.states))


def lengths(machine, states, most):
    """The lengths to `most` of logs that part a state from itself: pairs of runs, step by step."""
    found = set()
    for state in (range(machine.states) if states is None else states):
        runs = {(other, state) for other in range(machine.states)}
        for length in range(1, most + 1):
            runs = {(table[one], table[other]) for table in machine.tables for one, other in runs}
            if any(one == state != other for one, other in runs):
                found.add(length)
    return found


def least_by(found, most):
    """The least number to `most` of which no multiple is one of some lengths, None if there is none."""
    for number in range(1, most + 1):
        if not any(length % number == 0 for length in found):
            return number
    return None


def tells_wrap(machine, modulus, value, states, bound):
    if not is_row(value, 4) or value[0] != "wrap" or not is_log(machine, value[3]):
        return False
    _, state, other, log = value
    if not is_below(state, machine.states) or not is_below(other, machine.states):
        return False
    return (states is None or state in states) and len(log) > 0 and len(log) % modulus == 0 and (
        bound is None or len(log) < bound) and led(machine, other, log) == state != led(machine, state, log)


def tells_never(machine, value, states):
    if not is_row(value, 6) or value[0] != "never" or not all(is_log(machine, log) for log in value[3:]):
        return False
    _, state, other, ahead, around, behind = value
    if not is_below(state, machine.states) or not is_below(other, machine.states):
        return False
    if states is not None and state not in states:
        return False
    if len(around) == 0 or (len(ahead) + len(behind)) % len(around):
        return False
    for times in range(4):
        log = [*ahead, *(list(around) * times), *behind]
        if led(machine, other, log) != state or led(machine, state, log) == state:
            return False
    turned = [led(machine, at, ahead) for at in (state, other)]
    return turned == [led(machine, at, around) for at in turned]


def drawn_machines(seed, number, states):
    """Machines of all kinds, more of them with clocks."""
    draw = random.Random(seed)
    yield from machines(seed, number, states, 3)
    for _ in range(2 * number):
        yield clocked_machine(draw, draw.randint(2, states), 3)


def drawn_states(draw, machine):
    return draw.choice([None, drawn_part(draw, machine.states, 1)])


class LengthsTest(Case):
    def test_example(self):
        self.same(parting_lengths(RINGS, 12), (1, 2, 3, 4, 5, 7, 8, 9, 10, 11))

    def test_edges(self):
        self.same((parting_lengths(RINGS, 0), parting_lengths(RINGS, 1)), ((), (1,)))
        self.same(parting_lengths(machine=RINGS, length=7, states=[0]), (1, 3, 5, 7))
        self.same(parting_lengths(RINGS, 7, states=(2, 4)), (1, 2, 4, 5, 7))
        self.same(parting_lengths(RINGS, 7, states=[5]), ())
        self.same(parting_lengths(STILL, 400), ())
        self.same(parting_lengths(Machine([(0,)]), 400), ())
        self.same(parting_lengths(WORN, 4, states=None), (1, 3))
        self.same(parting_lengths(Machine([(1, 2, 3, 4, 4)]), 400), (1, 2, 3))

    def test_errors_in_order(self):
        for value in (*ODD, 401, 10 ** 6, (), []):
            self.fails(Refused, value, parting_lengths, RINGS, value)
            self.fails(Refused, value, parting_lengths, RINGS, value, states=0)
        for value in WRONG_STATES:
            self.fails(Refused, value, parting_lengths, RINGS, 0, states=value)

    def test_all_logs(self):
        draw = random.Random(90)
        for machine in machines(90, 80, 4, 2):
            states = drawn_states(draw, machine)
            told = {len(log) for log in logs_to(machine, 6) if parts(machine, states, log)}
            self.same(parting_lengths(machine, 6, states=states), tuple(sorted(told)))

    def test_drawn(self):
        draw = random.Random(91)
        for machine in drawn_machines(91, 40, 7):
            states = drawn_states(draw, machine)
            self.same(parting_lengths(machine, 60, states=states), tuple(sorted(lengths(machine, states, 60))))

    def test_limits(self):
        self.same(parting_lengths(CLOCKS, 400), tuple(length for length in range(1, 401) if length % 60))
        many = Machine([tuple((state + step) % 12 for state in range(12)) for step in range(1, 8)])
        self.same(parting_lengths(many, 400), tuple(range(1, 401)))


def tells_always(machine, modulus, states, bound, most):
    """Whether copy, remainder of its age and log tell the state now, for all logs of at most so many deeds."""
    told = range(machine.states) if states is None else states
    for log in logs_to(machine, most):
        ages = [age for age in range(len(log) + 1) if bound is None or age > len(log) - bound]
        runs = [[led(machine, start, log[:age]) for age in ages] for start in range(machine.states)]
        for state in told:
            for rest in range(modulus):
                now = {led(machine, start, log) for start, run in enumerate(runs)
                       for age, at in zip(ages, run) if at == state and age % modulus == rest}
                if len(now) > 1:
                    return False
    return True


class EnoughTest(OptionCase):
    def test_examples(self):
        self.same((is_enough(RINGS, 4), is_enough(RINGS, 4, bound=4), is_enough(RINGS, 6)), (False, True, True))
        self.same(wrap_holds(RINGS, 4, ("wrap", 2, 3, (0,) * 8)), True)

    def test_edges(self):
        self.same((is_enough(RINGS, 1), is_enough(RINGS, 1, bound=1), is_enough(STILL, 1)), (False, True, True))
        self.same((is_enough(RINGS, 200), is_enough(RINGS, 198)), (False, True))
        self.same((is_enough(CLOCKS, 60), is_enough(CLOCKS, 120), is_enough(CLOCKS, 100)), (True, True, False))
        self.same(is_enough(CLOCKS, 200, bound=200), True)
        self.same(is_enough(machine=CLOCKS, modulus=200, states=[0, 1, 2], bound=10 ** 6), False)
        self.same(is_enough(CLOCKS, 200, states=[3, 6]), True)
        self.same((wrap_paper(RINGS, 6), wrap_paper(RINGS, 4, bound=4)), (None, None))
        self.same(wrap_paper(RINGS, 2, states=[5]), None)
        self.same(wrap_paper(RINGS, 2, states=[1]), None)
        self.same(wrap_paper(RINGS, 2, states=[1, 2])[1], 2)
        self.same([len(wrap_paper(CLOCKS, number)[3]) for number in (1, 12, 20, 200)], [1, 12, 20, 200])

    def test_the_least_multiple_is_not_the_first_one(self):
        machine = Machine([(0, 2, 3, 0, 0), (4, 1, 4, 0, 1)])
        self.same(parting_lengths(machine, 20, states=[3]), (1, 2, 3, 4, 9, 10, 11, 12, 17, 18, 19, 20))
        paper = wrap_paper(machine, 7, states=[3])
        self.same((paper[0], paper[1], len(paper[3])), ("wrap", 3, 28))
        self.same(wrap_holds(machine, 7, paper, states=[3]), True)
        self.same(wrap_paper(machine, 7, states=[3], bound=28), None)
        self.same([is_enough(machine, 7, states=[3], bound=bound) for bound in (28, 29)], [True, False])
        self.same(len(wrap_paper(machine, 5, states=[3])[3]), 10)

    def test_errors_in_order(self):
        for call, rest in ((is_enough, ()), (wrap_paper, ()), (wrap_holds, (None,)),
                           (wrap_holds, (("wrap", 2, 3, (0,) * 8),))):
            for value in (*ODD, 0, 201, 10 ** 6, (), []):
                self.fails(Refused, value, call, RINGS, value, *rest, states=0, bound=0)
            for value in WRONG_STATES:
                self.fails(Refused, value, call, RINGS, 4, *rest, states=value)
                self.fails(Refused, value, call, RINGS, 4, *rest, states=value, bound=0)
            self.options_fail(Refused, ODD, ("bound",), call, RINGS, 4, *rest)

    def test_holds(self):
        for value in (("wrap", 2, 3, (0,) * 4), ["wrap", 3, 4, [0] * 16], ("wrap", 2, 5, (0,) * 4),
                      ("wrap", 2, 4, (0,) * 10000)):
            self.same(wrap_holds(RINGS, 4, value), tells_wrap(RINGS, 4, value, None, None))
        self.same(wrap_holds(RINGS, 4, ("wrap", 2, 4, (0,) * 10000)), True)
        self.same(wrap_holds(RINGS, 4, ("wrap", 2, 3, (0,) * 10004)), False)
        self.same(wrap_holds(RINGS, 1, ("wrap", 2, 3, ())), False)
        self.same(wrap_holds(RINGS, 4, ("wrap", 2, 3, (0,) * 8), states=[0, 2]), True)
        self.same(wrap_holds(RINGS, 4, ("wrap", 2, 3, (0,) * 8), states=[0, 3]), False)
        self.same(wrap_holds(machine=RINGS, modulus=4, value=("wrap", 2, 3, (0,) * 8), bound=8), False)
        self.same(wrap_holds(RINGS, 4, ("wrap", 2, 3, (0,) * 8), bound=9), True)
        self.same(wrap_holds(RINGS, 3, ("wrap", 2, 3, (0,) * 8)), False)
        for value in (*ODD, ("wrap",), ("wrap", 2, 3), ("Wrap", 2, 3, (0,) * 8), ("wrap", 2, 3, (0,) * 8, 0)):
            self.same(wrap_holds(RINGS, 4, value), False)

    def test_all_logs(self):
        draw = random.Random(92)
        found = set()
        for machine in machines(92, 80, 3, 2):
            states = drawn_states(draw, machine)
            bound = draw.choice([None, draw.randint(1, 5)])
            near = lengths(machine, states, 5)
            for modulus in range(1, 5):
                told = not any(multiple in near for multiple in range(modulus, min(6, bound or 6), modulus))
                self.assertEqual(tells_always(machine, modulus, states, bound, 5), told)
                found.add(told)
        self.assertEqual(found, {True, False})

    def test_drawn(self):
        draw = random.Random(93)
        found = set()
        for machine in drawn_machines(93, 40, 7):
            states = drawn_states(draw, machine)
            told = lengths(machine, states, 500)
            for modulus in (1, 2, 3, draw.randint(4, 12), draw.randint(13, 60)):
                bound = draw.choice([None, draw.randint(1, 40), 10 ** 6])
                multiples = [length for length in range(modulus, min(501, bound or 501), modulus) if length in told]
                paper = wrap_paper(machine, modulus, states=states, bound=bound)
                self.same(is_enough(machine, modulus, states=states, bound=bound), multiples == [])
                self.assertEqual(paper is None, multiples == [])
                found.add((paper is None, bound is None))
                if paper is not None:
                    self.same(len(paper[3]), multiples[0])
                    self.same(wrap_holds(machine, modulus, paper, states=states, bound=bound), True)
                    self.check_bent(machine, modulus, paper, states, bound)
        self.assertEqual(len(found), 4)

    def check_bent(self, machine, modulus, paper, states, bound):
        for value in itertools.islice(bent(paper), 150):
            self.same(wrap_holds(machine, modulus, value, states=states, bound=bound),
                      tells_wrap(machine, modulus, value, states, bound))

    def test_kept_at_multiples_no_mark_is_needed(self):
        """If and only if it is enough: what the next so many deeds do is then a machine of its own."""
        for machine in machines(94, 60, 4, 2):
            for modulus in (1, 2, 3):
                tables = list(dict.fromkeys(tuple(led(machine, state, log) for state in range(machine.states))
                                            for log in itertools.product(range(machine.deeds), repeat=modulus)))
                self.same(is_enough(machine, modulus), is_one_mark(Machine(tables)))


class LeastTest(OptionCase):
    def test_examples(self):
        self.same((least_wrap(RINGS, states=[2]), least_wrap(RINGS, bound=4), least_wrap(CELL)), (3, 4, None))

    def test_edges(self):
        self.same((least_wrap(RINGS), least_wrap(STILL), least_wrap(Machine([(0,)]))), (6, 1, 1))
        self.same(least_wrap(CLOCKS), 60)
        self.same((least_wrap(CLOCKS, states=(0, 1)), least_wrap(CLOCKS, states=[2, 3])), (3, 12))
        self.same(least_wrap(machine=CLOCKS, states=None, bound=1000), 60)
        self.same((least_wrap(CELL, bound=1), least_wrap(CELL, bound=1000)), (1, 1000))
        self.same((least_wrap(CELL, states=[0]), least_wrap(TURNS)), (None, 3))
        # Ways alone: each number that is greater than all lengths is enough, and none that is less.
        self.same(least_wrap(Machine([(1, 2, 3, 4, 4)])), 4)
        self.same(least_wrap(Machine([(1, 2, 3, 4, 4)]), bound=3), 3)
        # A way of six deeds into a ring of four states: eight is its first multiple that is long enough.
        self.same(least_wrap(Machine([(1, 2, 3, 4, 5, 6, 7, 8, 9, 6)])), 8)

    def test_errors_in_order(self):
        for value in WRONG_STATES:
            self.fails(Refused, value, least_wrap, RINGS, states=value)
            self.fails(Refused, value, least_wrap, RINGS, states=value, bound=0)
        self.options_fail(Refused, ODD, ("bound",), least_wrap, RINGS)

    def test_several_clocks(self):
        # In each of two parts, both deeds set a clock on: ages modulo two and modulo three.
        two = Machine([(1, 0, 3, 2, 5, 6, 4), (1, 2, 1, 0, 5, 6, 4)])
        three = Machine([(1, 0, 3, 4, 2), (1, 0, 3, 4, 2)])
        self.same((least_wrap(three), least_wrap(three, states=[0]), least_wrap(three, states=[2])), (6, 2, 3))
        for machine in (two, three):
            self.same(least_wrap(machine), least_by(lengths(machine, None, 900), 60))

    def test_drawn(self):
        draw = random.Random(95)
        found = set()
        for machine in drawn_machines(95, 80, 7):
            states = drawn_states(draw, machine)
            told = least_by(lengths(machine, states, 600), 40)
            self.same(least_wrap(machine, states=states), told)
            found.add(told)
            if told is not None:
                self.same(is_enough(machine, told, states=states), True)
        self.assertLessEqual({None, 1, 2, 3, 4, 5, 6}, found)

    def test_bound(self):
        draw = random.Random(96)
        for machine in drawn_machines(96, 15, 6):
            states = drawn_states(draw, machine)
            told = lengths(machine, states, 40)
            before = 1
            for bound in range(1, 40):
                found = least_wrap(machine, states=states, bound=bound)
                self.same(found, least_by({length for length in told if length < bound}, bound))
                self.assertTrue(before <= found <= bound)
                self.same(is_enough(machine, found, states=states, bound=bound), True)
                before = found

    def test_limits(self):
        eight = Machine([(1, 2, 0, 4, 5, 6, 7, 3)] * 8)
        self.same((least_wrap(eight), least_wrap(eight, bound=1000)), (15, 15))
        mixed = Machine([(1, 2, 3, 4, 5, 6, 7, 0), (1, 0, 2, 3, 4, 5, 6, 7), (0, 0, 2, 3, 4, 5, 6, 7)])
        self.same((least_wrap(mixed), least_wrap(mixed, bound=1000)), (None, 1000))
        self.same(len(wrap_paper(mixed, 200)[3]), 200)


class NeverTest(Case):
    def test_examples(self):
        self.same(never_holds(CELL, ("never", 0, 1, (0,), (1,), ())), True)
        self.same(never_holds(CELL, ("never", 0, 1, (0,), (0, 0), ())), False)

    def test_edges(self):
        self.same((never_paper(RINGS), never_paper(STILL), never_paper(CLOCKS)), (None, None, None))
        self.same(never_paper(machine=Machine([(0,)]), states=None), None)
        # State 2 is never parted from itself, the others are by logs of any length.
        machine = Machine([(1, 0, 2), (0, 1, 2)])
        self.same(never_paper(machine, states=[2]), None)
        self.same(never_holds(machine, never_paper(machine, states=[1, 2]), states=[1]), True)

    def test_errors(self):
        for value in WRONG_STATES:
            self.fails(Refused, value, never_paper, CELL, states=value)
            self.fails(Refused, value, never_holds, CELL, None, states=value)
            self.fails(Refused, value, never_holds, CELL, ("never", 0, 1, (0,), (1,), ()), states=value)

    def test_holds(self):
        for value, told in ((("never", 0, 1, (), (1,), (0,)), True), (["never", 0, 1, [], [1] * 3, [0, 1, 1]], True),
                            (("never", 0, 1, (0,), (), ()), False), (("never", 0, 1, (), (1,), (1,)), False),
                            (("never", 0, 1, (0,), (0,), ()), False), (("never", 0, 0, (0,), (1,), ()), False),
                            (("never", 1, 0, (0, 1, 1, 1), (0, 0), (1, 1)), True),
                            (("never", 0, 1, (), (1,), ()), False),
                            (("never", 0, 1, (0, 0), (1,), (0,) * 9999), True),
                            (("never", 0, 1, (0,) * 10000, (1,) * 10000, (1,) * 9999 + (0,)), True),
                            (("never", 0, 1, (1,) * 10001, (1,), (0,)), False),
                            (("never", 0, 1, (0,), (1,) * 10001, ()), False),
                            (("never", 0, 1, (0,), (1,), (1,) * 10001), False)):
            self.same(never_holds(CELL, value), told)
            self.same(tells_never(CELL, value, None), told)
        self.same(never_holds(CELL, ("never", 0, 1, (0,), (1,), ()), states=[0]), True)
        self.same(never_holds(machine=CELL, value=("never", 0, 1, (0,), (1,), ()), states=[1]), False)
        for value in (*ODD, ("never",), ("never", 0, 1, (0,), (1,)), ("wrap", 0, 1, (0,), (1,), ())):
            self.same(never_holds(CELL, value), False)

    def test_rounds_that_do_not_lead_back(self):
        # One turn leads none of the three states back, three turns lead all of them back.
        machine = Machine([(1, 2, 0), (0, 1, 2)])
        self.same(never_holds(machine, ("never", 0, 2, (0,), (1,), ())), True)
        self.same(never_holds(machine, ("never", 0, 2, (0,), (0,), ())), False)
        self.same(never_holds(machine, ("never", 0, 2, (0, 0, 0), (0, 0, 0), (1, 1, 0))), True)

    def test_drawn(self):
        draw = random.Random(97)
        found = 0
        long = 0
        for machine in drawn_machines(97, 80, 8):
            states = drawn_states(draw, machine)
            paper = never_paper(machine, states=states)
            self.assertEqual(paper is None, least_wrap(machine, states=states) is not None)
            if paper is not None:
                found += 1
                long += len(paper[4]) > 1
                self.same(never_holds(machine, paper, states=states), True)
                for value in bent(paper):
                    self.same(never_holds(machine, value, states=states), tells_never(machine, value, states))
                self.check_multiples(machine, paper)
        self.assertGreater(min(found, long), 10)

    def check_multiples(self, machine, paper):
        """Each number has multiples among the lengths of these logs."""
        _, state, other, ahead, around, behind = paper
        some = [len(ahead) + times * len(around) + len(behind) for times in range(30)]
        for number in range(1, 30):
            self.assertTrue(any(length % number == 0 for length in some))
