"""Promises 22, 23, 24, 25 and 26: most marks, first logs, bounds, how, what holds."""

import random

from agedcopy.errors import NoState, Refused, TooGreat
from agedcopy.forests import least_marks, lowest_ages
from agedcopy.machines import Machine
from agedcopy.tokens import all_most, bound_marks, first_lengths, first_log, most_marks
from agedcopy.views import finest_view, viewed_machine
from tests.helpers import ODD, RING, TURNS, WORN, Case, drawn_log, drawn_part, logs_to, machines
from tests.plain import counting, lowest

DOWN = Machine([(0, 0, 1, 2), (3, 1, 2, 3)])
# Nine states are too many here, eight are not.
GREAT = Machine([tuple(range(9))])
EIGHT = Machine([(1, 2, 3, 4, 5, 6, 7, 0), (1, 0, 2, 3, 4, 5, 6, 7), (0, 0, 2, 3, 4, 5, 6, 7)])


def greatest(machine, state, starts):
    """The most marks over all logs: what matters is where starts may be, and where copies of lowest ages have come."""
    told = range(machine.states) if starts is None else starts

    def shown(live, copies, number):
        if state in live and state not in copies:
            return live, copies | {state}, number + 1
        return live, copies, number

    queue = [shown(frozenset(told), frozenset(), 0)]
    known = set(queue)
    for live, copies, number in queue:
        for table in machine.tables:
            later = shown(frozenset(table[at] for at in live), frozenset(table[at] for at in copies), number)
            if later not in known:
                known.add(later)
                queue.append(later)
    return max(number for _, _, number in queue)


def used_starts(machine, log, state, starts):
    """How many starts are used along a log, step by step as promise 25 tells it, start by start."""
    now = {start: start for start in (range(machine.states) if starts is None else starts)}
    used = []
    for age in range(len(log) + 1):
        if age > 0:
            now = {start: machine.tables[log[age - 1]][at] for start, at in now.items()}
        if state not in [now[start] for start in used]:
            used += [start for start in now if now[start] == state][:1]
        yield len(used)


class MostTest(Case):
    def test_examples(self):
        self.same(all_most(DOWN), (3, 3, 3, 3))
        self.same(first_lengths(DOWN, 2), (0, 1, 3))
        self.same(first_log(DOWN, 1, 3), ((0, 0), (0, 1, 2)))
        self.same(bound_marks(DOWN, 2, 2), 2)

    def test_edges(self):
        one = Machine([(0,)])
        self.same((most_marks(one, 0), all_most(one), first_lengths(one, 0)), (1, (1,), (0,)))
        self.same((first_log(one, 0, 1), first_log(one, 0, 2)), (((), (0,)), None))
        self.same(first_log(machine=DOWN, state=1, number=10 ** 30, starts=None), None)
        self.same((bound_marks(DOWN, 2, 1), bound_marks(machine=DOWN, state=2, bound=10 ** 6)), (1, 3))
        self.same((bound_marks(DOWN, 2, 3), bound_marks(DOWN, 2, 4)), (2, 3))

    def test_starts_told(self):
        self.same(most_marks(DOWN, 1, starts=[2]), 1)
        self.same(first_lengths(DOWN, 1, starts=[2]), (1,))
        self.same(first_log(DOWN, 1, 1, starts=(2,)), ((0,), (1,)))
        self.same(all_most(TURNS, starts=[0]), (1, 1, 1))
        self.same(all_most(TURNS, starts=[0, 2]), (2, 2, 2))

    def test_states_to_which_no_log_leads(self):
        self.same((most_marks(WORN, 1, starts=[0]), most_marks(Machine([(1, 1)]), 0, starts=[1])), (1, 0))
        machine = Machine([(1, 1, 2)])
        self.same(all_most(machine, starts=[1, 2]), (0, 1, 1))
        self.same((first_lengths(machine, 0, starts=[1]), first_log(machine, 0, 1, starts=[1])), ((), None))

    def test_errors_in_order(self):
        for value in (*ODD, 9):
            self.fails(NoState, value, most_marks, GREAT, value, starts=0)
            self.fails(NoState, value, first_lengths, GREAT, value, starts=0)
            self.fails(NoState, value, first_log, GREAT, value, None, starts=0)
            self.fails(NoState, value, bound_marks, GREAT, value, None)
        for value in (*ODD, 0, (), []):
            if value != 10 ** 30:
                self.fails(Refused, value, first_log, GREAT, 0, value, starts=0)
                self.fails(Refused, value, bound_marks, GREAT, 0, value)
                self.fails(Refused, value, bound_marks, DOWN, 0, value)
        for value in (*ODD, (), [], [1, 0], [0, 0], [9], 0):
            if value is not None:
                self.fails(Refused, value, most_marks, GREAT, 0, starts=value)
                self.fails(Refused, value, all_most, GREAT, starts=value)
                self.fails(Refused, value, first_lengths, GREAT, 0, starts=value)
                self.fails(Refused, value, first_log, GREAT, 0, 1, starts=value)

    def test_too_many_states(self):
        for machine in (GREAT, Machine([(0,) * 12])):
            self.fails(TooGreat, 8, most_marks, machine, 0)
            self.fails(TooGreat, 8, all_most, machine)
            self.fails(TooGreat, 8, all_most, machine, starts=[0])
            self.fails(TooGreat, 8, first_lengths, machine, 8)
            self.fails(TooGreat, 8, first_log, machine, 0, 1, starts=[0])
            self.fails(TooGreat, 8, bound_marks, machine, 0, 1)
        self.same(all_most(EIGHT), (8,) * 8)
        self.same(first_log(EIGHT, 0, 8)[0], (0,) * 7)
        self.same(len(first_lengths(EIGHT, 3)), 8)

    def test_all_logs(self):
        draw = random.Random(80)
        for machine in machines(80, 120, 3, 2):
            starts = draw.choice([None, drawn_part(draw, machine.states, 1)])
            for state in range(machine.states):
                self.check_first(machine, state, starts, 6)

    def check_first(self, machine, state, starts, length):
        """The first logs among all of some length that need 1, 2, .. marks, by the definitions alone."""
        first = []
        for log in logs_to(machine, length):
            ages = lowest(machine, log, state, counting(machine, log, state, starts, None, None))
            if len(ages) > len(first):
                first.append((log, ages))
        lengths = first_lengths(machine, state, starts=starts)
        self.same(lengths[:len(first)], tuple(len(log) for log, _ in first))
        self.assertTrue(all(more > length for more in lengths[len(first):]))
        for at, found in enumerate(first):
            self.same(first_log(machine, state, at + 1, starts=starts), found)

    def test_drawn(self):
        draw = random.Random(81)
        found = set()
        for machine in (*machines(81, 200, 5, 3), RING, TURNS, WORN, DOWN):
            starts = draw.choice([None, drawn_part(draw, machine.states, 1)])
            told = tuple(greatest(machine, state, starts) for state in range(machine.states))
            found.update(told)
            self.same(all_most(machine, starts=starts), told)
            for state in range(machine.states):
                self.same(most_marks(machine, state, starts=starts), told[state])
                lengths = first_lengths(machine, state, starts=starts)
                self.same(len(lengths), told[state])
                self.same(first_log(machine, state, told[state] + 1, starts=starts), None)
                for at, length in enumerate(lengths):
                    log, ages = first_log(machine, state, at + 1, starts=starts)
                    self.same((len(log), len(ages)), (length, at + 1))
                    self.same(lowest_ages(machine, log, state, starts=starts), ages)
        self.assertLessEqual({0, 1, 2, 3, 4, 5}, found)

    def test_used_starts(self):
        draw = random.Random(82)
        for machine in machines(82, 150, 5, 3):
            log = drawn_log(draw, machine, 10)
            starts = draw.choice([None, drawn_part(draw, machine.states, 1)])
            for state in range(machine.states):
                told = [least_marks(machine, log[:age], state, starts=starts) for age in range(len(log) + 1)]
                self.same(list(used_starts(machine, log, state, starts)), told)


class BoundTest(Case):
    def test_drawn(self):
        for machine in machines(83, 60, 3, 2):
            for state in range(machine.states):
                for bound in range(1, 6):
                    told = max(least_marks(machine, log, state, bound=bound) for log in logs_to(machine, 6))
                    self.same(bound_marks(machine, state, bound), told)

    def test_not_so_for_starts_that_are_told(self):
        # The second mark needs a log of three deeds, but two parted ages that are neighbours in it.
        machine = Machine([(1, 2, 3, 3, 2)])
        self.same(first_lengths(machine, 2, starts=[0, 4]), (1, 2))
        self.same(least_marks(machine, (0, 0), 2, starts=[0, 4], bound=2), 2)


class HoldsTest(Case):
    def test_states_to_which_no_other_one_is_led(self):
        for machine in machines(84, 150, 5, 3):
            most = all_most(machine)
            for state in range(machine.states):
                if all(table[other] != state for table in machine.tables for other in range(machine.states)
                       if other != state):
                    self.same(most[state], 1)

    def test_deeds_that_only_change_places(self):
        draw = random.Random(85)
        for _ in range(60):
            many = draw.randint(1, 6)
            machine = Machine([draw.sample(range(many), many) for _ in range(draw.randint(1, 2))])
            most = all_most(machine)
            for state in range(many):
                reached = {state}
                while True:
                    more = reached | {table[at] for table in machine.tables for at in reached}
                    if more == reached:
                        break
                    reached = more
                self.same(most[state], len(reached))

    def test_groups_of_a_view(self):
        draw = random.Random(86)
        for machine in machines(86, 200, 5, 2):
            view = finest_view(machine, [(draw.randrange(machine.states), draw.randrange(machine.states))])
            most = all_most(machine)
            for group, needed in enumerate(all_most(viewed_machine(machine, view))):
                each = [most[state] for state in range(machine.states) if view[state] == group]
                self.assertLessEqual(needed, sum(each))

    def test_a_group_may_need_more_than_each_of_its_states(self):
        machine = Machine([(2, 5, 1, 5, 4, 3), (2, 4, 1, 4, 4, 5)])
        view = finest_view(machine, [(1, 3)])
        self.same((most_marks(machine, 1), most_marks(machine, 3)), (3, 3))
        self.same(most_marks(viewed_machine(machine, view), view[1]), 4)
