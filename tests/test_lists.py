"""Promises 50 and 51: lists of states that may be now, where there are fewer marks than parted ages ask for."""

import itertools
import random

from agedcopy.errors import BadLog, NoState, Refused, TooGreat
from agedcopy.forests import least_marks
from agedcopy.lists import greatest_list, least_list, now_groups
from agedcopy.machines import Machine
from agedcopy.marks import path_marks
from tests.helpers import ODD, RING, TURNS, led
from tests.plain import OptionCase, counting, drawn_cases, lowest, met_ahead


def greatest(machine, log, state, ages, marking):
    """How many unlike states the ages of one mark lead to at most, moment by moment."""
    found = 0
    for moment in range(len(log) + 1):
        for mark in set(marking):
            states = {led(machine, state, log[age:moment]) for age, other in zip(ages, marking)
                      if other == mark and age <= moment}
            found = max(found, len(states))
    return found


def searched(machine, log, state, ages, marks):
    """The markings among which the least one is looked for."""
    joins = {age: (met_ahead(machine, log, state, ages, age) or [None])[-1] for age in ages}
    low = lowest(machine, log, state, ages)
    found = []
    for choice in itertools.product(range(marks), repeat=len(low)):
        if all(mark <= max(choice[:at], default=-1) + 1 for at, mark in enumerate(choice)):
            told = dict(zip(low, choice))
            for age in ages:
                if joins[age] is not None:
                    told[age] = told[joins[age]]
            found.append(tuple(told[age] for age in ages))
    return found


def groups_at(machine, log, state, ages, moment):
    return len({led(machine, state, log[age:moment]) for age in ages if age <= moment})


class GroupTest(OptionCase):
    def test_example(self):
        self.same(now_groups(RING, (0, 0, 0), 0), ((0, (3,)), (1, (2,)), (2, (1,)), (3, (0,))))

    def test_edges(self):
        self.same((now_groups(RING, (), 2), now_groups(RING, [], 2, starts=[0])), (((2, (0,)),), ()))
        self.same(now_groups(RING, (0, 0), 0, kept=()), ())
        self.same(now_groups(machine=RING, log=[0] * 8, state=1, starts=(0,), kept=None), ((0, (1, 5)),))
        self.same(now_groups(RING, [0] * 8, 1, starts=[0, 3], kept=[0, 1, 2, 6]), ((0, (1,)), (3, (2, 6))))

    def test_drawn(self):
        many = set()
        for machine, log, state, starts, kept, _ in drawn_cases(270, 300):
            ages = counting(machine, log, state, starts, kept, None)
            told = {}
            for age in ages:
                told.setdefault(led(machine, state, log[age:]), []).append(age)
            many.add(len(told))
            self.same(now_groups(machine, log, state, starts=starts, kept=kept),
                      tuple((now, tuple(told[now])) for now in sorted(told)))
        self.assertLessEqual({0, 1, 2, 3}, many)

    def test_errors_in_order(self):
        self.fails(BadLog, 0, now_groups, TURNS, (2,), None, starts=())
        for value in (*ODD, 3):
            self.fails(NoState, value, now_groups, TURNS, (0,), value, starts=())
        self.options_fail(Refused, ODD, ("starts", "kept"), now_groups, TURNS, (0, 0), 0)


class GreatestTest(OptionCase):
    def test_example(self):
        self.same(greatest_list(RING, (0, 0, 0), 0, (0, 1, 0, 1)), 2)

    def test_edges(self):
        self.same((greatest_list(RING, (), 0, [5]), greatest_list(RING, (), 0, (), starts=[1])), (1, 0))
        self.same(greatest_list(machine=RING, log=[0, 0, 0], state=0, marking=[9] * 4, starts=None, kept=None), 4)
        self.same(greatest_list(RING, [0] * 3, 0, (0, 1, 2, 3)), 1)
        self.same(greatest_list(RING, [0] * 3, 0, (10 ** 21, 0, 10 ** 21), kept=[0, 1, 3]), 2)
        # Behind the second deed all are in one state; what counts is the moment ahead of it.
        self.same(greatest_list(TURNS, (0, 1), 0, (0, 0, 0)), 2)
        self.same(greatest_list(TURNS, (0, 1), 0, (0, 1, 0)), 1)

    def test_drawn(self):
        draw = random.Random(271)
        many = set()
        for machine, log, state, starts, kept, _ in drawn_cases(272, 300):
            ages = counting(machine, log, state, starts, kept, None)
            marking = [draw.randrange(3) for _ in ages]
            told = greatest(machine, log, state, ages, marking)
            many.add(told)
            self.same(greatest_list(machine, log, state, marking, starts=starts, kept=kept), told)
        self.assertLessEqual({0, 1, 2, 3}, many)

    def test_safe_markings_have_lists_of_one_state(self):
        for machine, log, state, starts, kept, _ in drawn_cases(273, 150):
            marks = path_marks(machine, log, state, starts=starts, kept=kept)
            marking = [mark for mark in marks if mark is not None]
            self.same(greatest_list(machine, log, state, marking, starts=starts, kept=kept), min(1, len(marking)))

    def test_errors_in_order(self):
        self.fails(BadLog, 0, greatest_list, TURNS, (2,), None, None, starts=())
        for value in (*ODD, 3):
            self.fails(NoState, value, greatest_list, TURNS, (0,), value, None, starts=())
        self.options_fail(Refused, ODD, ("starts", "kept"), greatest_list, TURNS, (0, 0), 0, (0, 0, 0))
        self.fails(Refused, (), greatest_list, TURNS, (0, 0), 0, None, starts=())
        self.fails(Refused, (7,), greatest_list, TURNS, (0, 0), 0, None, kept=(7,))
        for value in (*ODD, (), (0, 0), (0, 0, 0, 0), (0, 0, -1), (0, True, 0), (0, None, 0), "000", [0, 0, "0"],
                      ((0, 0, 0),), [[0], [0], [0]]):
            self.fails(Refused, value, greatest_list, TURNS, (0, 0), 0, value)
        # Only possible kept ages have a mark.
        self.fails(Refused, (0, 0), greatest_list, RING, [0] * 4, 1, (0, 0), starts=[0])
        self.same(greatest_list(RING, [0] * 4, 1, [0], starts=[0]), 1)


class LeastTest(OptionCase):
    def test_example(self):
        self.same(least_list(RING, (0, 0, 0), 0, 3)[0], 2)

    def test_edges(self):
        self.same((least_list(RING, (), 0, 1), least_list(RING, (), 0, 9)), ((1, (0,)), (1, (0,))))
        self.same(least_list(RING, (0,), 0, 5, kept=[]), (0, ()))
        self.same(least_list(machine=RING, log=[0] * 3, state=0, marks=1, starts=None, kept=None, most=1),
                  (4, (0, 0, 0, 0)))
        self.same(least_list(RING, [0] * 3, 0, 4)[0], 1)
        self.same(least_list(RING, [0] * 3, 0, 10 ** 30)[0], 1)
        self.same([least_list(RING, [0] * 3, 0, marks)[0] for marks in range(1, 6)], [4, 2, 2, 1, 1])

    def test_drawn(self):
        found = set()
        draw = random.Random(274)
        for machine, log, state, starts, kept, _ in drawn_cases(275, 300, 4, 3, 6):
            ages = counting(machine, log, state, starts, kept, None)
            marks = draw.randint(1, 4)
            number, marking = least_list(machine, log, state, marks, starts=starts, kept=kept)
            self.same(least_list(machine, log, state, marks, starts=starts, kept=kept, most=20000), (number, marking))
            self.assertEqual((type(number), type(marking), len(marking)), (int, tuple, len(ages)))
            self.assertTrue(all(type(mark) is int and 0 <= mark < marks for mark in marking))
            self.assertEqual(greatest(machine, log, state, ages, marking), number)
            if marks ** len(ages) <= 300:
                least = min(greatest(machine, log, state, ages, told)
                            for told in itertools.product(range(marks), repeat=len(ages)))
                self.assertEqual(number, least)
            shares = [-(-groups_at(machine, log, state, ages, moment) // marks) for moment in range(len(log) + 1)]
            self.assertGreaterEqual(number, max(shares))
            found.add((number, max(shares)))
        self.assertLessEqual({(0, 0), (1, 1), (2, 2), (3, 3)}, found)

    def test_more_than_each_share(self):
        """Sometimes the least list is longer than the groups at each moment ask for."""
        draw = random.Random(276)
        found = 0
        for machine, log, state, starts, kept, _ in drawn_cases(277, 600, 6, 3, 12):
            ages = counting(machine, log, state, starts, kept, None)
            marks = draw.randint(2, 3)
            number, _ = least_list(machine, log, state, marks, starts=starts, kept=kept)
            told = searched(machine, log, state, ages, marks)
            self.assertEqual(number, min(greatest(machine, log, state, ages, marking) for marking in told))
            found += number > max(-(-groups_at(machine, log, state, ages, moment) // marks)
                                  for moment in range(len(log) + 1))
        self.assertGreater(found, 0)

    def test_choices_that_must_be_taken_back(self):
        """The first or last mark that fits now may be wrong later."""
        for tables, log, state, marks, told in (
                ([(4, 1, 5, 3, 2, 0), (3, 0, 1, 5, 4, 2), (5, 3, 1, 1, 2, 1)],
                 (0, 0, 0, 2, 0, 1, 1, 0, 0, 1, 2, 0, 2, 0, 1, 0, 2, 0, 0, 0, 1, 0, 2), 2, 2, 2),
                ([(2, 7, 1, 3, 0, 6, 4, 1)], (0,) * 22, 2, 2, 2),
                ([(3, 1, 7, 5, 0, 6, 4, 2), (7, 6, 5, 4, 1, 0, 3, 2), (6, 3, 2, 6, 2, 0, 0, 3)],
                 (0, 1, 1, 1, 0, 0, 2, 2, 0, 2, 2, 1, 1, 1, 2), 1, 2, 2)):
            machine = Machine(tables)
            ages = counting(machine, log, state, None, None, None)
            number, marking = least_list(machine, log, state, marks)
            self.same(number, told)
            self.assertEqual(greatest(machine, log, state, ages, marking), told)
            self.assertEqual(min(greatest(machine, log, state, ages, marking)
                                 for marking in searched(machine, log, state, ages, marks)), told)

    def test_as_many_marks_as_are_told_and_one_fewer(self):
        for machine, log, state, starts, kept, _ in drawn_cases(278, 200):
            needed = least_marks(machine, log, state, starts=starts, kept=kept)
            if needed > 0:
                self.same(least_list(machine, log, state, needed, starts=starts, kept=kept)[0], 1)
            if needed > 1:
                self.assertEqual(least_list(machine, log, state, needed - 1, starts=starts, kept=kept)[0], 2)

    def test_most(self):
        """TooGreat only if there are more such markings than `most`."""
        for machine, log, state, starts, kept, _ in drawn_cases(279, 200, 5, 3, 10):
            ages = counting(machine, log, state, starts, kept, None)
            for marks in (2, 3):
                many = len(searched(machine, log, state, ages, marks))
                told = least_list(machine, log, state, marks, starts=starts, kept=kept)
                self.same(least_list(machine, log, state, marks, starts=starts, kept=kept, most=many), told)
                for most in {1, many // 2, many - 1} - {0, many}:
                    try:
                        found = least_list(machine, log, state, marks, starts=starts, kept=kept, most=most)
                    except TooGreat as error:
                        self.same(error.most, most)
                    else:
                        self.same(found, told)

    def test_limits(self):
        ring = Machine([tuple((state + 1) % 12 for state in range(12)), (1, 0, *range(2, 12))])
        log = ([0] * 5 + [1]) * 10
        for marks in (1, 2, 3, 4, 5, 11, 12):
            try:
                number, marking = least_list(ring, log, 0, marks)
            except TooGreat as error:
                self.same(error.most, 20000)
            else:
                self.same(greatest_list(ring, log, 0, marking), number)
                self.assertEqual(number, -(-12 // marks))

    def test_errors_in_order(self):
        self.fails(BadLog, 0, least_list, TURNS, (2,), None, None, starts=())
        for value in (*ODD, 3):
            self.fails(NoState, value, least_list, TURNS, (0,), value, None, starts=())
        for value in (*(value for value in ODD if value != 10 ** 30), 0, (), [1]):
            self.fails(Refused, value, least_list, TURNS, (0,), 0, value, starts=())
        self.options_fail(Refused, ODD, ("starts", "kept"), least_list, TURNS, (0, 0), 0, 2)
