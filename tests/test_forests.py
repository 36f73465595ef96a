"""Promises 12, 13 and 14: the forest, lowest ages, papers."""

import itertools
import random

from agedcopy.errors import BadLog, NoState, Refused
from agedcopy.forests import (age_forest, least_marks, lot_holds, lot_paper, lowest_ages, next_age,
                              window_numbers)
from agedcopy.machines import Machine
from tests.helpers import ODD, TURNS, Case, led
from tests.plain import OptionCase, are_met, are_parted, counting, drawn_cases, lowest, showing

ALL = ("starts", "kept", "bound")


class NextAgeTest(OptionCase):
    def test_edges(self):
        self.same(next_age(TURNS, (0, 1, 0), 0, 0), 2)
        self.same(next_age(TURNS, (0, 1, 0), 0, 0, kept=(0, 1, 3)), None)
        self.same(next_age(TURNS, (), 0, 0), None)
        self.same(next_age(TURNS, (0, 0), 2, 0), None)
        self.same(next_age(TURNS, [0] * 6, state=1, age=0, kept=[6]), 6)
        self.same(next_age(TURNS, [0] * 6, 0, 1, kept=[]), None)

    def test_states_that_are_not_possible(self):
        self.same(next_age(TURNS, (1, 0, 0, 0), 1, 2), 4)

    def test_errors_in_order(self):
        self.fails(BadLog, -1, next_age, TURNS, None, None, None, kept=0)
        for value in (*ODD, 3):
            self.fails(Refused, value, next_age, TURNS, (0, 0), value, None, kept=0)
            self.fails(NoState, value, next_age, TURNS, (0, 0), 2, value, kept=0)
        self.options_fail(Refused, ODD, ("kept",), next_age, TURNS, (0, 0), 0, 0)

    def test_drawn(self):
        for machine, log, state, _, kept, _ in drawn_cases(40, 150):
            told = range(len(log) + 1) if kept is None else kept
            for age in range(len(log) + 1):
                later = [other for other in told if other > age and are_met(machine, log, age, other, state)]
                self.same(next_age(machine, log, age, state, kept=kept), later[0] if later else None)


class ForestTest(OptionCase):
    def test_example(self):
        self.same(age_forest(TURNS, (0, 0, 0, 0), 0), ((0, 3), (1, 4), (2, None), (3, None), (4, None)))

    def test_edges(self):
        self.same(age_forest(TURNS, (), 0), ((0, None),))
        self.same(age_forest(TURNS, [0] * 4, state=0, kept=[]), ())
        self.same(age_forest(TURNS, [0] * 4, 0, kept=(0, 1, 3)), ((0, 3), (1, None), (3, None)))
        self.same(age_forest(TURNS, [0] * 4, 0, starts=(0,)), ((0, 3), (3, None)))
        self.same(age_forest(TURNS, [0] * 4, 0, bound=4), ((1, 4), (2, None), (3, None), (4, None)))

    def test_errors_in_order(self):
        self.fails(BadLog, 0, age_forest, TURNS, (2,), None, starts=0)
        self.fails(NoState, 3, age_forest, TURNS, (0,), 3, starts=0, kept=0, bound=0)
        self.options_fail(Refused, ODD, ALL, age_forest, TURNS, (0, 0), 0)

    def test_drawn(self):
        for machine, log, state, starts, kept, bound in drawn_cases(41, 200):
            ages = counting(machine, log, state, starts, kept, bound)
            forest = age_forest(machine, log, state, starts=starts, kept=kept, bound=bound)
            self.same(forest, tuple((age, next_age(machine, log, age, state, kept=kept)) for age in ages))
            self.check_ways(dict(forest), machine, log, state)

    def check_ways(self, later, machine, log, state):
        for one, other in itertools.combinations(list(later), 2):
            at = one
            while at is not None and at < other:
                at = later[at]
            self.assertEqual(at == other, are_met(machine, log, one, other, state))


class LowestAgesTest(OptionCase):
    def test_examples(self):
        self.same(lowest_ages(TURNS, (0, 0, 0, 0), 0), (0, 1, 2))
        self.same(least_marks(TURNS, (0, 0, 0, 0), 0), 3)
        self.same(least_marks(TURNS, (0, 0, 0, 0), 0, bound=2), 2)
        self.same(window_numbers(TURNS, (0, 0, 0, 0), 0, 2), (1, 2, 2, 2, 2))

    def test_edges(self):
        self.same(lowest_ages(TURNS, (), 1), (0,))
        self.same(lowest_ages(TURNS, (1,), 1, bound=1), ())
        self.same(least_marks(TURNS, (1,), 1, bound=1), 0)
        self.same(lowest_ages(TURNS, [0] * 4, state=0, kept=()), ())
        self.same(least_marks(TURNS, [0] * 4, 0, kept=()), 0)
        self.same(lowest_ages(TURNS, [0] * 4, 0, bound=2), (3, 4))
        self.same(lowest_ages(TURNS, [0] * 4, 0, bound=1), (4,))
        self.same(lowest_ages(TURNS, [0] * 4, 0, bound=10 ** 6), (0, 1, 2))
        self.same(lowest_ages(TURNS, [0] * 4, 0, starts=[1, 2]), (1, 2))
        self.same(lowest_ages(TURNS, [0] * 4, 0, kept=[3, 4]), (3, 4))

    def test_errors_in_order(self):
        for call in (lowest_ages, least_marks):
            self.fails(BadLog, -1, call, TURNS, 0, None, starts=0)
            for value in (*ODD, 3):
                self.fails(NoState, value, call, TURNS, (0,), value, starts=0, kept=0, bound=0)
            self.options_fail(Refused, ODD, ALL, call, TURNS, (0, 0), 0)

    def test_drawn(self):
        numbers = set()
        for machine, log, state, starts, kept, bound in drawn_cases(42, 250, length=6):
            ages = counting(machine, log, state, starts, kept, bound)
            told = lowest(machine, log, state, ages)
            options = {"starts": starts, "kept": kept, "bound": bound}
            self.same(lowest_ages(machine, log, state, **options), told)
            self.same(least_marks(machine, log, state, **options), len(told))
            numbers.add(len(told))
            self.assertTrue(are_parted(machine, log, state, told))
            lots = itertools.combinations(ages, len(told) + 1)
            self.assertFalse(any(are_parted(machine, log, state, lot) for lot in lots))
        self.assertLessEqual({0, 1, 2, 3}, numbers)


class WindowNumbersTest(OptionCase):
    def test_edges(self):
        self.same(window_numbers(TURNS, (), 0, 1), (1,))
        self.same(window_numbers(TURNS, [0] * 4, 0, 1), (1, 1, 1, 1, 1))
        self.same(window_numbers(TURNS, [0] * 4, 0, 5), (1, 2, 3, 3, 3))
        self.same(window_numbers(TURNS, [0] * 4, 0, width=10 ** 6), (1, 2, 3, 3, 3))
        self.same(window_numbers(TURNS, [0] * 4, 0, 2, kept=()), (0, 0, 0, 0, 0))
        self.same(window_numbers(TURNS, [0] * 4, 0, 2, kept=[1]), (0, 1, 1, 0, 0))
        self.same(window_numbers(TURNS, [0] * 4, 0, 2, starts=[0]), (1, 1, 0, 1, 1))

    def test_errors_in_order(self):
        self.fails(BadLog, -1, window_numbers, TURNS, 0, None, None, starts=0)
        self.fails(NoState, None, window_numbers, TURNS, (0,), None, None, starts=0)
        for value in (*ODD, 0):
            if value != 10 ** 30:
                self.fails(Refused, value, window_numbers, TURNS, (0,), 0, value, starts=0, kept=0)
        self.options_fail(Refused, ODD, ("starts", "kept"), window_numbers, TURNS, (0, 0), 0, 1)

    def test_drawn(self):
        for machine, log, state, starts, kept, _ in drawn_cases(43, 150):
            for bound in range(1, len(log) + 3):
                told = []
                for moment in range(len(log) + 1):
                    ages = None if kept is None else [age for age in kept if age <= moment]
                    early = log[:moment]
                    told.append(len(lowest(machine, early, state,
                                           counting(machine, early, state, starts, ages, bound))))
                self.same(window_numbers(machine, log, state, bound, starts=starts, kept=kept), tuple(told))

    def test_long_log(self):
        ring = Machine([tuple((state + 1) % 12 for state in range(12))])
        self.same(window_numbers(ring, [0] * 400, 3, 10 ** 6)[-1], 12)
        self.same(window_numbers(ring, [0] * 400, 3, 7), (*range(1, 8), *[7] * 394))


class LotTest(OptionCase):
    def test_example(self):
        self.same(lot_paper(TURNS, (0, 0), 0), ("lot", (0, 1, 2), (0, 2, 1)))

    def test_edges(self):
        self.same(lot_paper(TURNS, (), 1), ("lot", (0,), (1,)))
        self.same(lot_paper(TURNS, [1], 1, bound=1), ("lot", (), ()))
        self.same(lot_paper(TURNS, [0, 1], state=0, starts=[1, 2], kept=[1, 2]), ("lot", (1,), (2,)))

    def test_errors_in_order(self):
        self.fails(BadLog, -1, lot_paper, TURNS, 0, None, starts=0)
        self.fails(NoState, True, lot_paper, TURNS, (0,), True, starts=0)
        self.options_fail(Refused, ODD, ALL, lot_paper, TURNS, (0, 0), 0)
        self.fails(BadLog, -1, lot_holds, TURNS, 0, None, None, starts=0)
        self.fails(NoState, True, lot_holds, TURNS, (0,), True, None, starts=0)
        self.options_fail(Refused, ODD, ALL, lot_holds, TURNS, (0, 0), 0, None)
        self.options_fail(Refused, ODD, ALL, lot_holds, TURNS, (0, 0), 0, ("lot", (0, 1, 2), (0, 2, 1)))

    def test_holds(self):
        for value in (("lot", (0, 1, 2), (0, 2, 1)), ["lot", [0, 1, 2], [0, 2, 1]], ("lot", (), ()), ("lot", [1], (2,)),
                      ("lot", (0, 2), [0, 1])):
            self.same(lot_holds(TURNS, (0, 0), 0, value), True)
        self.same(lot_holds(TURNS, [1], 0, ("lot", (1,), (2,))), True)
        self.same(lot_holds(TURNS, [1], state=0, value=("lot", (1,), (2,)), starts=[0, 1]), False)
        self.same(lot_holds(TURNS, [0] * 3, 0, ("lot", (0, 3), (0, 0))), False)
        self.same(lot_holds(TURNS, (0, 0), 0, ("lot", (0, 1), (0, 2)), kept=[0, 2]), False)
        self.same(lot_holds(TURNS, (0, 0), 0, ("lot", (0, 1), (0, 2)), bound=2), False)
        self.same(lot_holds(TURNS, (0, 0), 0, ("lot", (1, 2), (2, 1)), bound=2), True)

    def test_any_value(self):
        for value in (*ODD, (), ("lot",), ("lot", ()), ("lot", (), (), ()), ("lot", (0,), ()), ("lot", (), (0,)),
                      ("lot", (1, 0), (2, 0)), ("lot", (0, 0), (0, 0)), ("lot", (0, 3), (0, 0)), ("lot", (0,), (1,)),
                      ("lot", (False,), (0,)), ("lot", (0,), (False,)), ("lot", (1,), (True,)), ("lot", (0,), (None,)),
                      ("lot", (0,), ("0",)), ("lot", (0,), ((0,),)), ("lot", ((0,),), (0,)), ("lot", "", ""),
                      ("lot", None, ()), ("lot", (), None), ("Lot", (), ()), (None, (), ()), (("lot",), (), ()),
                      ("lot", (0,), (3,)), ("lot", (0,), (-1,)), ("lot", (-1,), (0,)), ("lot", 0, 0), "lot",
                      ("lot", (0,) * 10000, (0,) * 10000)):
            self.same(lot_holds(TURNS, (0, 0), 0, value), False)
        for value in ODD:
            self.same(lot_holds(TURNS, (0, 0), 0, (value, (0,), (0,))), False)
            self.same(lot_holds(TURNS, (0, 0), 0, ("lot", value, (0,))), False)
            self.same(lot_holds(TURNS, (0, 0), 0, ("lot", (0,), value)), False)

    def test_drawn(self):
        draw = random.Random(44)
        found = set()
        for machine, log, state, starts, kept, bound in drawn_cases(44, 250):
            options = {"starts": starts, "kept": kept, "bound": bound}
            ages = counting(machine, log, state, starts, kept, bound)
            told = lowest(machine, log, state, ages)
            first = tuple(showing(machine, log, age, state, starts)[0] for age in told)
            self.same(lot_paper(machine, log, state, **options), ("lot", told, first))
            self.same(lot_holds(machine, log, state, ("lot", told, first), **options), True)
            for _ in range(6):
                lot = sorted(draw.sample(range(len(log) + 1), draw.randint(1, min(3, len(log) + 1))))
                shown = [draw.randrange(machine.states) for _ in lot]
                if draw.randrange(3):
                    shown = [draw.choice(showing(machine, log, age, state, None) or [0]) for age in lot]
                holds = (all(age in ages for age in lot) and are_parted(machine, log, state, lot)
                         and all(led(machine, start, log[:age]) == state for start, age in zip(shown, lot))
                         and all(starts is None or start in starts for start in shown))
                found.add((holds, len(lot)))
                self.same(lot_holds(machine, log, state, ("lot", lot, shown), **options), holds)
        self.assertLessEqual({(True, 2), (True, 3), (False, 1), (False, 2)}, found)


class LimitTest(Case):
    def test_long_logs(self):
        ring = Machine([tuple((state + 1) % 12 for state in range(12)), tuple(range(12))])
        self.same(least_marks(ring, [0] * 400, 5), 12)
        self.same(len(age_forest(ring, [0, 1] * 200, 5)), 401)
        self.same(lot_holds(ring, [0] * 400, 5, lot_paper(ring, [0] * 400, 5)), True)
