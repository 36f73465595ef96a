"""Promises 10 and 11: possible ages, met and parted ones."""

import random

from agedcopy.ages import age_word, is_unlike_now, parting_starts, possible_ages, seen_starts
from agedcopy.errors import BadLog, NoState, Refused
from tests.helpers import ODD, TURNS, Case, led
from tests.plain import OptionCase, are_met, counting, drawn_cases, showing


class SeenStartsTest(OptionCase):
    def test_example(self):
        self.same(seen_starts(TURNS, (0, 0), 2, 0), (1,))

    def test_edges(self):
        self.same(seen_starts(TURNS, (), 0, 2), (2,))
        self.same(seen_starts(TURNS, [1], 1, 0), (0, 1, 2))
        self.same(seen_starts(TURNS, [1], 1, 1), ())
        self.same(seen_starts(TURNS, [1, 0, 0], state=0, age=1, starts=[1, 2]), (1, 2))
        self.same(seen_starts(TURNS, (0, 0), 2, 0, starts=(0, 2)), ())

    def test_errors_in_order(self):
        self.fails(BadLog, 0, seen_starts, TURNS, [7], None, None, starts=0)
        for value in (*ODD, 3, [0]):
            self.fails(Refused, value, seen_starts, TURNS, (0, 0), value, None, starts=())
            self.fails(NoState, value, seen_starts, TURNS, (0, 0), 2, value, starts=())
        self.options_fail(Refused, ODD, ("starts",), seen_starts, TURNS, (0, 0), 1, 0)

    def test_drawn(self):
        for machine, log, state, starts, _, _ in drawn_cases(30, 60):
            for age in range(len(log) + 1):
                told = tuple(showing(machine, log, age, state, starts))
                self.same(seen_starts(machine, log, age, state, starts=starts), told)


class PossibleAgesTest(OptionCase):
    def test_edges(self):
        self.same(possible_ages(TURNS, (), 0), (0,))
        self.same(possible_ages(TURNS, (), 0, starts=[1]), ())
        self.same(possible_ages(TURNS, (), 0, kept=()), ())
        self.same(possible_ages(TURNS, (0, 1, 0), 0), (0, 1, 2))
        self.same(possible_ages(TURNS, (0, 1, 0), state=0, starts=(0,)), (0, 2))
        self.same(possible_ages(TURNS, (0, 1, 0), 0, kept=[1, 3]), (1,))

    def test_bounds(self):
        for bound, told in ((1, (4,)), (2, (3, 4)), (5, (0, 1, 2, 3, 4)), (6, (0, 1, 2, 3, 4)), (10 ** 6, (0, 1, 2, 3, 4)),
                            (None, (0, 1, 2, 3, 4))):
            self.same(possible_ages(TURNS, (0, 0, 0, 0), 0, bound=bound), told)
        self.same(possible_ages(TURNS, (0, 0, 0, 0), 0, kept=[0, 2, 3], bound=3), (2, 3))
        self.same(possible_ages(TURNS, (0, 0, 0, 0), 0, kept=[0, 3], bound=1), ())

    def test_errors_in_order(self):
        self.fails(BadLog, -1, possible_ages, TURNS, "", None, starts=0, kept=0, bound=0)
        for value in (*ODD, 3):
            self.fails(NoState, value, possible_ages, TURNS, (0, 0), value, starts=0, kept=0, bound=0)
        self.options_fail(Refused, ODD, ("starts", "kept", "bound"), possible_ages, TURNS, (0, 0), 0)
        self.fails(Refused, (0, 3), possible_ages, TURNS, (0, 0), 0, kept=(0, 3))
        with self.assertRaises(TypeError):
            possible_ages(TURNS, (0, 0), 0, (0,))

    def test_drawn(self):
        for machine, log, state, starts, kept, bound in drawn_cases(31, 150):
            told = tuple(counting(machine, log, state, starts, kept, bound))
            self.same(possible_ages(machine, log, state, starts=starts, kept=kept, bound=bound), told)

    def test_arguments_stay(self):
        log, starts, kept = [0, 0], [0, 2], [0, 1]
        possible_ages(TURNS, log, 0, starts=starts, kept=kept)
        self.same((log, starts, kept), ([0, 0], [0, 2], [0, 1]))


class AgeWordTest(OptionCase):
    def test_examples(self):
        self.same(age_word(TURNS, (0, 0, 0), 0, 3, 0), "met")
        self.same(parting_starts(TURNS, (0, 0), 0, 1, 0), (0, 2))

    def test_not_both_possible(self):
        self.same(age_word(TURNS, (0, 1, 0), 0, 3, 0), None)
        self.same(age_word(TURNS, (0, 0), 0, 1, 0, starts=(0,)), None)
        self.same(parting_starts(TURNS, (0, 1, 0), 0, 3, 0), None)
        self.same(age_word(TURNS, (1, 0, 1), 1, 2, 1), None)

    def test_met_has_no_starts(self):
        self.same(parting_starts(TURNS, (0, 0, 0), 0, 3, 0), None)
        self.same(age_word(TURNS, [0, 0], 0, 1, 0, starts=[0, 2]), "parted")
        self.same(parting_starts(TURNS, [0, 0], state=0, other=1, one=0, starts=[0, 2]), (0, 2))

    def test_unlike_now(self):
        self.same(is_unlike_now(TURNS, (0, 0), 0, 1, 0), True)
        self.same(is_unlike_now(TURNS, (0, 1), 0, 1, 0), False)
        self.same(is_unlike_now(TURNS, [1, 0], state=2, one=0, other=2), True)
        self.same(is_unlike_now(TURNS, (0, 0, 0), 0, 3, 2), False)

    def test_errors_in_order(self):
        for call in (age_word, parting_starts, is_unlike_now):
            self.fails(BadLog, 1, call, TURNS, (0, None), None, None, None)
            for value in (*ODD, 4):
                self.fails(Refused, value, call, TURNS, (0, 0, 0), value, None, None)
                self.fails(Refused, value, call, TURNS, (0, 0, 0), 1, value, None)
            for value in (0, 1):
                self.fails(Refused, value, call, TURNS, (0, 0, 0), 1, value, None)
            self.fails(Refused, 3, call, TURNS, (0, 0, 0), 3, 3, 0)
            for value in (*ODD, 3):
                self.fails(NoState, value, call, TURNS, (0, 0, 0), 1, 2, value)
        for call in (age_word, parting_starts):
            self.fails(NoState, None, call, TURNS, (0, 0, 0), 1, 2, None, starts=0)
            self.options_fail(Refused, ODD, ("starts",), call, TURNS, (0, 0), 0, 1, 0)

    def test_drawn(self):
        words = set()
        for machine, log, state, starts, _, _ in drawn_cases(32, 150):
            for other in range(len(log) + 1):
                for one in range(other):
                    ahead = showing(machine, log, one, state, starts)
                    behind = showing(machine, log, other, state, starts)
                    told = "met" if are_met(machine, log, one, other, state) else "parted"
                    told = told if ahead and behind else None
                    words.add(told)
                    self.same(age_word(machine, log, one, other, state, starts=starts), told)
                    pair = (ahead[0], behind[0]) if told == "parted" else None
                    self.same(parting_starts(machine, log, one, other, state, starts=starts), pair)
                    unlike = led(machine, state, log[one:]) != led(machine, state, log[other:])
                    self.same(is_unlike_now(machine, log, one, other, state), unlike)
                    if told is not None:
                        self.assertEqual(set(ahead) <= set(behind), told == "met")
        self.assertEqual(words, {"met", "parted", None})


class LimitTest(Case):
    def test_long_logs(self):
        draw = random.Random(33)
        log = [draw.randrange(2) for _ in range(400)]
        self.same(possible_ages(TURNS, log, 0)[0], 0)
        self.same(age_word(TURNS, [0] * 400, 1, 400, 0), "met")
        self.same(age_word(TURNS, [0] * 400, 0, 400, 0), "parted")
