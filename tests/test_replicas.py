"""Promises 44, 45 and 46: two copies of one run: what they tell, which is newer, which is of now."""

import itertools
import random

from agedcopy.errors import BadLog, NoState, Refused
from agedcopy.machines import Machine
from agedcopy.replicas import (fresh_pairs, fresh_paper, fresh_ways, newer_ways, order_paper, ordered_pairs, pair_ages,
                               pair_ends, pair_paper, replica_holds, told_pairs)
from tests.helpers import ODD, TURNS, Case, bent, drawn_log, drawn_part, is_below, is_log, is_row, led, logs_to, machines

WORN, CIRCLE = Machine([(1, 2, 2)]), Machine([(1, 2, 0)])
ONE, TWO, STILL = Machine([(0,)]), Machine([(1, 0)]), Machine([(0, 1, 2)])
KINDS = ("pair", "ordered", "order", "fresh")


def run(machine, start, log):
    return [led(machine, start, log[:age]) for age in range(len(log) + 1)]


def pairs_of(states, one, other):
    """The ages (of one, of other) at which a run, told by its states, shows them."""
    return [(age, later) for age in range(len(states)) for later in range(len(states))
            if states[age] == one and states[later] == other]


def ends(machine, log, one, other, starts, keep):
    """The states in which runs end that have ages as asked."""
    found = set()
    for start in starts:
        states = run(machine, start, log)
        if any(keep(*ages) for ages in pairs_of(states, one, other)):
            found.add(states[-1])
    return tuple(sorted(found))


def is_untold(machine, log, one, other, kind):
    """Whether a log does not tell what is asked, word by word."""
    states = range(machine.states)
    if kind in ("pair", "ordered"):
        keep = (lambda age, later: age < later) if kind == "ordered" else (lambda age, later: True)
        return len(ends(machine, log, one, other, states, keep)) > 1
    runs = [run(machine, start, log) for start in states]
    if kind == "order":
        ages = [pair for states in runs for pair in pairs_of(states, one, other)]
        return any(age < later for age, later in ages) and any(later < age for age, later in ages)
    return (any(other in states and states[-1] == one for states in runs)
            and any(one in states and states[-1] == other for states in runs))


def is_paper(machine, one, other, ordered, value):
    """What the document says of the three kinds of papers, word by word."""
    if not is_row(value, 4) or value[0] not in ("pair", "order", "fresh") or not is_log(machine, value[1]):
        return False
    kind, log, *runs = value
    for told in runs:
        if not is_row(told, 3) or not is_below(told[0], machine.states):
            return False
        if not all(is_below(age, len(log) + 1) for age in told[1:]):
            return False
        if led(machine, told[0], log[:told[1]]) != one or led(machine, told[0], log[:told[2]]) != other:
            return False
    (start, age, later), (start_too, age_too, later_too) = runs
    if kind == "order":
        return age < later and later_too < age_too
    if kind == "fresh":
        return age == len(log) and later_too == len(log)
    return led(machine, start, log) != led(machine, start_too, log) and (
        not ordered or age < later and age_too < later_too)


def paper_of(machine, one, other, kind):
    if kind in ("pair", "ordered"):
        return pair_paper(machine, one, other, ordered=kind == "ordered")
    return {"order": order_paper, "fresh": fresh_paper}[kind](machine, one, other)


def reached(machine, start):
    """The states to which logs lead a state."""
    found = {start}
    while True:
        more = {table[state] for table in machine.tables for state in found} | found
        if more == found:
            return found
        found = more


class LogTest(Case):
    def test_examples(self):
        self.same((pair_ages(WORN, (0, 0), 1, 2), pair_ends(WORN, (0, 0), 0, 1)), (((0, 1), (0, 2), (1, 2)), (2,)))
        self.same((newer_ways(CIRCLE, (0,), 0, 1), fresh_ways(CIRCLE, (0, 0), 0, 1)), ((True, False), (True, True)))

    def test_edges(self):
        self.same((pair_ages(TWO, (), 0, 1), pair_ends(TWO, [], 0, 1), newer_ways(TWO, (), 0, 1),
                   fresh_ways(TWO, (), 1, 0)), ((), (), (False, False), (False, False)))
        self.same(pair_ages(machine=TWO, log=[0], one=1, other=0, starts=None), ((0, 1), (1, 0)))
        self.same(pair_ages(TWO, [0], 1, 0, starts=[1]), ((0, 1),))
        self.same(pair_ends(machine=CIRCLE, log=[0, 0], one=0, other=1, ordered=False, starts=(0, 1)), (0, 2))
        self.same(pair_ends(CIRCLE, [0, 0], 0, 1), (0, 1, 2))
        self.same(pair_ends(CIRCLE, [0, 0], 0, 1, ordered=True), (1, 2))
        self.same(pair_ends(CIRCLE, [0, 0], 1, 0, ordered=True), (0,))
        self.same(newer_ways(machine=CIRCLE, log=(0, 0), one=0, other=1, starts=[1]), (False, True))
        self.same(fresh_ways(machine=CIRCLE, log=(0, 0), one=0, other=1, starts=(1,)), (True, False))

    def test_one_run_may_be_both_ways(self):
        # The state 0 comes back in between.
        self.same(newer_ways(TWO, (0, 0), 0, 1, starts=[0]), (True, True))
        self.same(fresh_ways(TWO, (0, 0), 0, 1, starts=[0]), (True, False))

    def test_drawn(self):
        draw = random.Random(240)
        many = set()
        for machine in machines(241, 400):
            if machine.states == 1:
                continue
            one, other = draw.sample(range(machine.states), 2)
            log = drawn_log(draw, machine, 6)
            starts = draw.choice([None, drawn_part(draw, machine.states, 1)])
            told = range(machine.states) if starts is None else starts
            runs = [run(machine, start, log) for start in told]
            ages = sorted({pair for states in runs for pair in pairs_of(states, one, other)})
            self.same(pair_ages(machine, log, one, other, starts=starts), tuple(ages))
            both = ends(machine, log, one, other, told, lambda age, later: True)
            ordered = ends(machine, log, one, other, told, lambda age, later: age < later)
            many.add((len(both), len(ordered)))
            self.same(pair_ends(machine, log, one, other, starts=starts), both)
            self.same(pair_ends(machine, log, one, other, ordered=True, starts=starts), ordered)
            self.same(newer_ways(machine, log, one, other, starts=starts),
                      (any(age < later for age, later in ages), any(later < age for age, later in ages)))
            self.same(fresh_ways(machine, log, one, other, starts=starts),
                      (any(other in states and states[-1] == one for states in runs),
                       any(one in states and states[-1] == other for states in runs)))
        self.assertLessEqual({(0, 0), (1, 0), (1, 1), (2, 1), (2, 2)}, many)

    def test_errors_in_order(self):
        for call in (pair_ages, pair_ends, newer_ways, fresh_ways):
            self.fails(BadLog, 1, call, WORN, (0, 1), None, None, starts=())
            for value in (*ODD, 3):
                self.fails(NoState, value, call, WORN, (0,), value, None, starts=())
                self.fails(NoState, value, call, WORN, (0,), 0, value, starts=())
            for state in range(3):
                self.fails(Refused, state, call, WORN, (0,), state, state, starts=())
            for value in (*ODD, (), [], [1, 0], [0, 0], [3], 0):
                if value is not None:
                    self.fails(Refused, value, call, WORN, (0,), 0, 1, starts=value)
            with self.assertRaises(TypeError):
                call(WORN, (0,), 0, 1, None)

    def test_limits(self):
        ring = Machine([tuple((state + 1) % 12 for state in range(12))])
        log = [0] * 400
        told = {pair for start in range(12) for pair in pairs_of([(start + age) % 12 for age in range(401)], 3, 7)}
        self.same(pair_ages(ring, log, 3, 7), tuple(sorted(told)))
        self.same(pair_ends(ring, log, 3, 7), tuple(range(12)))
        self.same(fresh_ways(ring, log, 3, 7), (True, True))


class PaperTest(Case):
    def test_examples(self):
        self.same((told_pairs(WORN), told_pairs(CIRCLE)), (((0, 1), (0, 2), (1, 2)), ()))
        self.same((pair_paper(CIRCLE, 0, 1)[:2], order_paper(WORN, 0, 1)), (("pair", (0, 0)), None))

    def test_edges(self):
        for call in (ordered_pairs, fresh_pairs, told_pairs):
            self.same((call(ONE), call(machine=STILL)), ((), ((0, 1), (0, 2), (1, 2))))
        self.same(told_pairs(ONE, ordered=True), ())
        self.same(told_pairs(machine=STILL, ordered=True), ((0, 1), (0, 2), (1, 0), (1, 2), (2, 0), (2, 1)))
        self.same((ordered_pairs(WORN), fresh_pairs(WORN)), (((0, 1), (0, 2), (1, 2)),) * 2)
        self.same((ordered_pairs(CIRCLE), fresh_pairs(CIRCLE)), ((), ()))
        self.same(pair_paper(machine=TWO, one=0, other=1), ("pair", (0,), (0, 0, 1), (1, 1, 0)))
        self.same(pair_paper(machine=TWO, one=0, other=1, ordered=True)[:2], ("pair", (0, 0)))
        self.same(order_paper(machine=TWO, one=1, other=0), ("order", (0,), (1, 0, 1), (0, 1, 0)))
        self.same(fresh_paper(machine=TWO, one=1, other=0), ("fresh", (0,), (0, 1, 0), (1, 0, 1)))

    def test_told_if_ordered_alone(self):
        """Pairs that tell the state once it is known which copy is newer."""
        machine = Machine([(1, 2, 2), (2, 0, 0)])
        self.same(pair_paper(machine, 0, 1), ("pair", (1, 1, 0), (0, 0, 3), (1, 1, 0)))
        self.same([pair_paper(machine, *pair, ordered=True) for pair in ((0, 1), (1, 0))], [None, None])
        self.assertLessEqual({(0, 1), (1, 0), (1, 2), (2, 1)}, set(told_pairs(machine, ordered=True)))

    def test_first_logs(self):
        draw = random.Random(243)
        found = {kind: set() for kind in KINDS}
        for machine in machines(244, 250, 4, 3):
            if machine.states == 1:
                continue
            one, other = draw.sample(range(machine.states), 2)
            for kind in KINDS:
                paper = paper_of(machine, one, other, kind)
                first = next((log for log in logs_to(machine, 3) if is_untold(machine, log, one, other, kind)), None)
                if paper is None or len(paper[1]) > 3:
                    self.assertIsNone(first)
                    found[kind].add(paper and "long")
                else:
                    self.same(paper[1], first)
                    found[kind].add(len(first))
                if paper is not None:
                    self.check_paper(machine, one, other, kind, paper)
        for kind in KINDS:
            self.assertLessEqual({None, 2, 3}, found[kind], kind)

    def check_paper(self, machine, one, other, kind, paper):
        ordered = kind == "ordered"
        self.assertEqual(paper[0], "pair" if ordered else kind)
        self.assertTrue(is_paper(machine, one, other, ordered, paper))
        self.assertEqual([type(part) for part in paper], [str, tuple, tuple, tuple])
        self.same(replica_holds(machine, one, other, paper, ordered=ordered), True)
        self.same(replica_holds(machine, one, other, [*map(list, paper[1:2]), *paper[2:]]), False)
        self.assertTrue(is_untold(machine, paper[1], one, other, kind))

    def test_long_first_logs(self):
        """First logs told by all logs of one deed fewer, and by all lesser ones of as many deeds."""
        draw = random.Random(245)
        lengths = set()
        for machine in machines(246, 150, 4, 2):
            if machine.states == 1:
                continue
            one, other = draw.sample(range(machine.states), 2)
            for kind in KINDS:
                paper = paper_of(machine, one, other, kind)
                if paper is not None and 3 < len(paper[1]) <= 7:
                    lengths.add(len(paper[1]))
                    for log in logs_to(machine, len(paper[1])):
                        if log == paper[1]:
                            break
                        self.assertFalse(is_untold(machine, log, one, other, kind))
        self.assertLessEqual({4, 5}, lengths)

    def test_pairs(self):
        for machine in machines(247, 200, 4, 3):
            pairs = list(itertools.permutations(range(machine.states), 2))
            lesser = [pair for pair in pairs if pair[0] < pair[1]]
            for told, ordered in ((lesser, False), (pairs, True)):
                self.same(told_pairs(machine, ordered=ordered), tuple(
                    pair for pair in told if pair_paper(machine, *pair, ordered=ordered) is None))
            self.same(ordered_pairs(machine), tuple(
                pair for pair in lesser if order_paper(machine, *pair) is None))
            self.same(fresh_pairs(machine), tuple(pair for pair in lesser if fresh_paper(machine, *pair) is None))

    def test_ways_there_and_back(self):
        """It is not told which is newer if and only if deeds lead there and back."""
        for machine in machines(248, 200, 5, 3):
            told = [(one, other) for one, other in itertools.combinations(range(machine.states), 2)
                    if other not in reached(machine, one) or one not in reached(machine, other)]
            self.same(ordered_pairs(machine), tuple(told))
            self.assertLessEqual(set(told), set(fresh_pairs(machine)))

    def test_one_run_twice(self):
        # Only the run from 0 shows both states, each ahead of the other one.
        machine = Machine([(1, 2, 0, 3), (3, 3, 3, 3)])
        paper = order_paper(machine, 0, 1)
        self.assertTrue(is_paper(machine, 0, 1, False, paper))
        self.same(replica_holds(TWO, 0, 1, ("order", (0, 0), (0, 0, 1), (0, 2, 1))), True)

    def test_errors_in_order(self):
        for call in (pair_paper, order_paper, fresh_paper):
            for value in (*ODD, 3):
                self.fails(NoState, value, call, WORN, value, None)
                self.fails(NoState, value, call, WORN, 0, value)
            self.fails(Refused, 2, call, WORN, 2, 2)
        self.fails(NoState, None, pair_paper, WORN, None, 0, ordered=True)
        with self.assertRaises(TypeError):
            pair_paper(WORN, 0, 1, True)
        with self.assertRaises(TypeError):
            told_pairs(WORN, True)

    def test_limits(self):
        draw = random.Random(249)
        for states in (8, 12):
            machine = Machine([draw.sample(range(states), states) for _ in range(7)]
                              + [[min(state + 1, states - 1) for state in range(states)]])
            for kind in KINDS:
                paper = paper_of(machine, 3, 6, kind)
                self.assertTrue(is_paper(machine, 3, 6, kind == "ordered", paper))
        chain = Machine([[min(state + 1, 7) for state in range(8)] for _ in range(8)])
        everyone = tuple(itertools.combinations(range(8), 2))
        self.same((ordered_pairs(chain), fresh_pairs(chain)), (everyone, everyone))


class HoldsTest(Case):
    def test_bent(self):
        draw = random.Random(250)
        checked = {}
        for machine in machines(251, 60, 4, 2):
            if machine.states == 1:
                continue
            one, other = draw.sample(range(machine.states), 2)
            for kind in KINDS:
                paper = paper_of(machine, one, other, kind)
                if paper is None or len(paper[1]) > 3:
                    continue
                for value in bent(paper):
                    for ordered in (False, True):
                        told = is_paper(machine, one, other, ordered, value)
                        checked[kind, told] = checked.get((kind, told), 0) + 1
                        self.same(replica_holds(machine, one, other, value, ordered=ordered), told)
        for kind in KINDS:
            self.assertGreater(min(checked[kind, True], checked[kind, False]), 10)

    def test_drawn(self):
        draw = random.Random(252)
        found = set()
        for machine in machines(253, 400, 3, 2):
            if machine.states == 1:
                continue
            one, other = draw.sample(range(machine.states), 2)
            log = drawn_log(draw, machine, 3)
            runs = []
            for _ in range(2):
                start = draw.randrange(machine.states)
                ages = pairs_of(run(machine, start, log), one, other) or [(0, len(log))]
                runs.append((start, *draw.choice(ages)))
            for kind in ("pair", "order", "fresh"):
                for ordered in (False, True):
                    value = [kind, log, *runs]
                    told = is_paper(machine, one, other, ordered, value)
                    found.add((kind, ordered, told))
                    self.same(replica_holds(machine, one, other, value, ordered=ordered), told)
        self.assertEqual(len(found), 12)

    def test_ordered_is_for_pairs_alone(self):
        self.same(replica_holds(TWO, 0, 1, ("pair", (0,), (0, 0, 1), (1, 1, 0))), True)
        self.same(replica_holds(TWO, 0, 1, ("pair", (0,), (0, 0, 1), (1, 1, 0)), ordered=True), False)
        for value in (("order", (0,), (0, 0, 1), (1, 1, 0)), ("fresh", (0,), (1, 1, 0), (0, 0, 1))):
            self.same(replica_holds(machine=TWO, one=0, other=1, value=value, ordered=True), True)
            self.same(replica_holds(TWO, 0, 1, value), True)
            self.same(replica_holds(TWO, 1, 0, value), False)

    def test_any_value(self):
        for value in ODD:
            self.same(replica_holds(TWO, 0, 1, value), False)
        for value in (("pair",), ("pair", (0,)), ("pair", (1,), (0, 0, 1), (1, 1, 0)), ("pair", (0,), (0, 0), (1, 1, 0)),
                      ("pair", (0,), (0, 0, 1), (2, 1, 0)), ("pair", (0,), (0, 0, 2), (1, 1, 0)),
                      ("pair", (0,), (0, 0, True), (1, 1, 0)), ("pair", [0], (False, 0, 1), (1, 1, 0)),
                      ("two", (0,), (0, 0, 1), (1, 1, 0)), (TWO, (0,), (0, 0, 1), (1, 1, 0)),
                      ("pair", (0,) * 10001, (0, 0, 1), (1, 1, 0))):
            self.same(replica_holds(TWO, 0, 1, value), False)

    def test_long_logs(self):
        self.same(replica_holds(TWO, 0, 1, ("order", (0,) * 10000, (0, 0, 9999), (0, 10000, 1))), True)
        self.same(replica_holds(TWO, 0, 1, ("fresh", (0,) * 10000, (0, 10000, 1), (1, 0, 10000))), False)
        self.same(replica_holds(TWO, 0, 1, ("fresh", (0,) * 10000, (0, 10000, 1), (1, 1, 10000))), True)

    def test_errors_in_order(self):
        for value in (*ODD, 2):
            self.fails(NoState, value, replica_holds, TWO, value, None, None)
            self.fails(NoState, value, replica_holds, TWO, 0, value, None)
        self.fails(Refused, 1, replica_holds, TWO, 1, 1, None)
        self.fails(Refused, 1, replica_holds, TWO, 1, 1, None, ordered=True)
