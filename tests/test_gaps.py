"""Promise 47: two copies of one run, the second one a told number of deeds behind the first one."""

import itertools
import random

from agedcopy.errors import BadLog, NoState, Refused
from agedcopy.gaps import gap_ages, gap_ends, gap_holds, gap_paper, told_gaps
from agedcopy.machines import Machine
from agedcopy.onemark import is_one_mark
from tests.helpers import (ODD, TURNS, Case, bent, clocked_machine, drawn_log, drawn_part, is_below, is_log, is_row, led,
                           logs_to, machines)

WORN, CIRCLE, STILL = Machine([(1, 2, 2)]), Machine([(1, 2, 0)]), Machine([(0, 1)])


def shows(machine, log, one, other, gap, starts):
    """(start, age) of the runs that show one, and other a gap later."""
    return [(start, age) for start in starts for age in range(len(log) - gap + 1)
            if led(machine, start, log[:age]) == one and led(machine, start, log[:age + gap]) == other]


def is_untold(machine, log, gap):
    """Whether for some two states more than one may be now."""
    states = range(machine.states)
    return any(len({led(machine, start, log) for start, _ in shows(machine, log, one, other, gap, states)}) > 1
               for one in states for other in states)


def is_paper(machine, gap, value):
    """What the document says of ("gap", log, run, run), word by word."""
    if not is_row(value, 4) or value[0] != "gap" or not is_log(machine, value[1]):
        return False
    copies = []
    log = value[1]
    for told in value[2:]:
        if not is_row(told, 2) or not is_below(told[0], machine.states) or not is_below(told[1], len(log) - gap + 1):
            return False
        start, age = told
        copies.append((led(machine, start, log[:age]), led(machine, start, log[:age + gap])))
    return copies[0] == copies[1] and led(machine, value[2][0], log) != led(machine, value[3][0], log)


class AgesTest(Case):
    def test_example(self):
        self.same(gap_ends(CIRCLE, (0, 0), 0, 1, 1), (1, 2))

    def test_edges(self):
        self.same((gap_ages(STILL, (), 0, 0, 0), gap_ends(STILL, [], 0, 0, 0)), ((0,), (0,)))
        self.same((gap_ages(STILL, (), 0, 1, 0), gap_ends(STILL, (), 0, 1, 0)), ((), ()))
        # The same state twice is taken here.
        self.same(gap_ages(machine=CIRCLE, log=[0] * 5, one=1, other=1, gap=3, starts=None), (0, 1, 2))
        self.same(gap_ends(machine=CIRCLE, log=[0] * 5, one=1, other=1, gap=3, starts=(0, 2)), (1, 2))
        # A gap as long as the log, and one deed longer.
        self.same((gap_ages(CIRCLE, [0] * 12, 0, 0, 12), gap_ends(CIRCLE, [0] * 12, 0, 0, 12)), ((0,), (0,)))
        self.same((gap_ages(CIRCLE, [0] * 11, 0, 2, 12), gap_ends(CIRCLE, [0] * 11, 0, 2, 12)), ((), ()))
        self.same((gap_ages(CIRCLE, [0] * 3, 0, 1, 2), gap_ages(CIRCLE, (), 0, 1, 4)), ((), ()))

    def test_drawn(self):
        draw = random.Random(260)
        many = set()
        for machine in machines(261, 400, 4, 3):
            log = drawn_log(draw, machine, 7)
            gap = draw.randint(0, 4)
            starts = draw.choice([None, drawn_part(draw, machine.states, 1)])
            told = range(machine.states) if starts is None else starts
            one, other = draw.randrange(machine.states), draw.randrange(machine.states)
            found = shows(machine, log, one, other, gap, told)
            ages = gap_ages(machine, log, one, other, gap, starts=starts)
            self.same(ages, tuple(sorted({age for _, age in found})))
            ends = gap_ends(machine, log, one, other, gap, starts=starts)
            self.same(ends, tuple(sorted({led(machine, start, log) for start, _ in found})))
            many.add((len(ages), len(ends)))
        self.assertLessEqual({(0, 0), (1, 1), (2, 1), (2, 2)}, many)

    def test_errors_in_order(self):
        for call in (gap_ages, gap_ends):
            self.fails(BadLog, 0, call, WORN, (1,), None, None, None, starts=())
            for value in (*ODD, 3):
                self.fails(NoState, value, call, WORN, (0,), value, None, None, starts=())
                self.fails(NoState, value, call, WORN, (0,), 0, value, None, starts=())
            for value in (*ODD, 13):
                self.fails(Refused, value, call, WORN, (0,), 0, 1, value, starts=())
            for value in (*ODD, (), [], [1, 0], [0, 0], [3], 0):
                if value is not None:
                    self.fails(Refused, value, call, WORN, (0,), 0, 1, 12, starts=value)

    def test_limits(self):
        ring = Machine([tuple((state + 1) % 12 for state in range(12))])
        self.same(gap_ages(ring, [0] * 400, 3, 7, 4), tuple(range(397)))
        self.same(gap_ends(ring, [0] * 400, 3, 7, 4, starts=[3]), (7,))


class PaperTest(Case):
    def test_examples(self):
        self.same((gap_paper(WORN, 0)[:2], told_gaps(WORN, 2), told_gaps(CIRCLE, 3)), (("gap", (0,)), (1, 2), ()))

    def test_edges(self):
        self.same((gap_paper(STILL, 0), gap_paper(machine=STILL, gap=12), told_gaps(STILL, 12)),
                  (None, None, tuple(range(13))))
        self.same((told_gaps(machine=WORN, most=0), told_gaps(WORN, 1), told_gaps(STILL, 0)), ((), (1,), (0,)))
        paper = gap_paper(WORN, 0)
        self.assertEqual({paper[2], paper[3]}, {(0, 1), (1, 0)})
        self.same(gap_paper(CIRCLE, 12)[:2], ("gap", (0,) * 13))

    def test_first_logs(self):
        draw = random.Random(262)
        found = set()
        for machine in [*machines(263, 150, 4, 2), *(clocked_machine(draw, 4, 2) for _ in range(100))]:
            gap = draw.randint(0, 3)
            paper = gap_paper(machine, gap)
            for log in logs_to(machine, 5 if paper is None else min(7, len(paper[1]))):
                if paper is not None and log == paper[1]:
                    break
                self.assertFalse(is_untold(machine, log, gap))
            if paper is not None:
                self.assertTrue(is_paper(machine, gap, paper))
                self.assertEqual([type(part) for part in paper], [str, tuple, tuple, tuple])
                self.same(gap_holds(machine, gap, paper), True)
            found.add((gap, None if paper is None else len(paper[1])))
        for gap in range(4):
            self.assertLessEqual({(gap, None), (gap, gap + 1)}, found)
        self.assertTrue(any(length is not None and length > gap + 1 for gap, length in found))

    def test_told_gaps(self):
        lots = set()
        for machine in machines(264, 100, 3, 2):
            told = tuple(gap for gap in range(5) if gap_paper(machine, gap) is None)
            lots.add(told)
            for most in range(5):
                self.same(told_gaps(machine, most), tuple(gap for gap in told if gap <= most))
        self.assertLessEqual({(), (0, 1, 2, 3, 4), (1, 2, 3, 4)}, lots)

    def test_gap_of_nothing_is_one_copy(self):
        """Gap 0 is told if and only if one mark is enough; then each gap is told."""
        found = set()
        for machine in machines(265, 200, 4, 2):
            told = told_gaps(machine, 3)
            found.add(0 in told)
            self.assertEqual(0 in told, is_one_mark(machine))
            if 0 in told:
                self.same(told, (0, 1, 2, 3))
        self.assertEqual(found, {True, False})

    def test_limits(self):
        four = Machine([(1, 2, 3, 3), (0, 0, 1, 2), (1, 0, 2, 3)])
        for gap in range(5):
            self.assertTrue(is_paper(four, gap, gap_paper(four, gap)))
        self.assertTrue(is_paper(four, 12, gap_paper(four, 12)))
        self.same(told_gaps(Machine([(0, 0, 1, 2)]), 4), (2, 3, 4))

    def test_errors(self):
        for value in (*ODD, 13):
            self.fails(Refused, value, gap_paper, WORN, value)
            self.fails(Refused, value, told_gaps, WORN, value)
            self.fails(Refused, value, gap_holds, WORN, value, None)


class HoldsTest(Case):
    def test_bent(self):
        checked = {True: 0, False: 0}
        for machine in (WORN, TURNS, *machines(266, 60, 4, 2)):
            for gap in range(3):
                paper = gap_paper(machine, gap)
                if paper is not None and len(paper[1]) < 4:
                    for value in bent(paper):
                        for told in range(4):
                            checked[is_paper(machine, told, value)] += 1
                            self.same(gap_holds(machine, told, value), is_paper(machine, told, value))
        self.assertGreater(min(checked.values()), 100)

    def test_drawn(self):
        draw = random.Random(267)
        found = set()
        for machine in machines(268, 400, 3, 2):
            log, gap = drawn_log(draw, machine, 4), draw.randint(0, 2)
            copies = (draw.randrange(machine.states), draw.randrange(machine.states))
            runs = shows(machine, log, *copies, gap, range(machine.states))
            for pair in itertools.islice(itertools.product(runs, repeat=2), 9):
                value = ["gap", list(log), *map(list, pair)]
                told = is_paper(machine, gap, value)
                found.add(told)
                self.same(gap_holds(machine, gap, value), told)
        self.assertEqual(found, {True, False})

    def test_any_value(self):
        for value in ODD:
            self.same(gap_holds(WORN, 0, value), False)
        good = ("gap", (0,), (0, 1), (1, 0))
        self.same(gap_holds(machine=WORN, gap=0, value=good), True)
        self.same(gap_holds(WORN, 0, ["gap", [0], [1, 0], [0, 1]]), True)
        for value in (good[:3], (*good, 0), ("two", *good[1:]), (WORN, *good[1:]), ("gap", (1,), (0, 1), (1, 0)),
                      ("gap", (0,), (0, 2), (1, 0)), ("gap", (0,), (0, True), (1, 0)), ("gap", (0,), (3, 1), (1, 0)),
                      ("gap", (0,), (0, 1), (1, -1)), ("gap", (0,), (0, 1, 0), (1, 0)), ("gap", (0,), (0, 1), None),
                      ("gap", (0,), (0, 1), (0, 1)), ("gap", "0", (0, 1), (1, 0)), ("gap", (), (0, 0), (0, 0))):
            self.same(gap_holds(WORN, 0, value), False)
        self.same(gap_holds(WORN, 1, good), False)

    def test_long_logs(self):
        self.same(gap_holds(CIRCLE, 12, ("gap", (0,) * 10000, (0, 0), (1, 9986))), True)
        self.same(gap_holds(CIRCLE, 12, ("gap", (0,) * 10000, (0, 0), (2, 9988))), True)
        self.same(gap_holds(CIRCLE, 12, ("gap", (0,) * 10000, (0, 0), (1, 9989))), False)
        self.same(gap_holds(CIRCLE, 12, ("gap", (0,) * 10001, (0, 0), (1, 9986))), False)
