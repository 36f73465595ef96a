"""Promise 37: which deeds may be struck from a log that is kept for told copies."""

import itertools
import random

from agedcopy.errors import BadCopy, BadLog, TooGreat
from agedcopy.machines import Machine
from agedcopy.struck import fewest_kept, kept_right
from tests.helpers import ODD, TURNS, Case, bent, drawn_log, drawn_part, led, machines

HALL = Machine([(1, 2, 2), (0, 0, 0), (0, 2, 1)])
WRONG_COPIES = (None, True, "", 0, -1, [0], [None], [()], [(0,)], [(0, 0, 0)], [(3, 0)], [(0, 3)], [(-1, 0)],
                [(0, -1)], [(0, 0), (0, 3)], ((0, 0), 0), [(True, 0)], [(0, False)], "00", HALL, [(0, 10 ** 30)])


def lots(log, least=0):
    """All lots of places from one on, the fewest places first, then by size."""
    for many in range(len(log) + 1):
        yield from itertools.combinations(range(least, len(log)), many)


def is_right(machine, log, copies, lot):
    return all(led(machine, state, [log[at] for at in lot if at >= age]) == led(machine, state, log[age:])
               for state, age in copies)


def things(machine, log, copies):
    """How many unlike tables right lots make, by age, all ages together."""
    many = 0
    for age in range(len(log) + 1):
        told = [copy for copy in copies if copy[1] >= age]
        many += len({tuple(led(machine, state, [log[at] for at in lot]) for state in range(machine.states))
                     for lot in lots(log, age) if is_right(machine, log, told, lot)})
    return many


def drawn(seed, number, length=6):
    draw = random.Random(seed)
    for machine in machines(seed, number, 4, 3):
        log = drawn_log(draw, machine, length)
        copies = [(draw.randrange(machine.states), draw.randint(0, len(log))) for _ in range(draw.randint(0, 4))]
        yield draw, machine, log, copies


class FewestTest(Case):
    def test_example(self):
        self.same(fewest_kept(HALL, (0, 2, 2, 1, 0), [(0, 0)]), (0,))

    def test_edges(self):
        self.same(fewest_kept(HALL, (), []), ())
        self.same(fewest_kept(machine=HALL, log=[], copies=((2, 0),), most=1), ())
        self.same(fewest_kept(HALL, [0, 1, 2, 0], ()), ())
        self.same(fewest_kept(HALL, [0, 1, 2], [[0, 3], [1, 3], [2, 3]]), ())
        self.same(fewest_kept(Machine([(0,)]), [0] * 5, [(0, 0)]), ())
        # Either turn alone would do for one copy; the younger copy asks for the second one.
        self.same(fewest_kept(TURNS, [0], [(0, 0), (0, 0)]), (0,))
        self.same(fewest_kept(TURNS, (0, 1, 0), [(0, 0), (1, 2)]), (2,))
        self.same(fewest_kept(TURNS, (0, 0, 0, 0), [(0, 0)]), (0,))
        self.same(fewest_kept(TURNS, (0, 0, 0, 0), [(0, 0), (0, 3)]), (3,))
        self.same(fewest_kept(TURNS, (0, 0, 0, 0), [(0, 0), (0, 2)]), (0, 1, 2, 3))

    def test_several_lots_do_the_same(self):
        machine = Machine([(0, 0), (1, 1), (1, 0)])
        self.same(fewest_kept(machine, (1, 0, 2, 0, 1), [(1, 1), (0, 1)]), (4,))
        self.same(fewest_kept(machine, (1, 1, 1, 2, 0, 2, 0, 1), [(0, 3), (1, 2), (0, 2)]), (7,))
        machine = Machine([(1, 0, 2), (1, 2, 0)])
        log, copies = (1, 0, 1, 1, 1, 0, 1, 1, 1), [(2, 4), (1, 1), (2, 1), (0, 9)]
        self.same(fewest_kept(machine, log, copies), (2, 4, 6))
        self.same(next(lot for lot in lots(log) if is_right(machine, log, copies, lot)), (2, 4, 6))

    def test_drawn(self):
        sizes = set()
        for _, machine, log, copies in drawn(201, 250):
            told = next(lot for lot in lots(log) if is_right(machine, log, copies, lot))
            sizes.add(len(told))
            self.same(fewest_kept(machine, log, copies), told)
            self.same(fewest_kept(machine, list(log), tuple(map(list, copies))), told)
        self.assertLessEqual({0, 1, 2, 3}, sizes)

    def test_most_just_reached_and_just_passed(self):
        for _, machine, log, copies in drawn(202, 60, 5):
            many = things(machine, log, copies)
            told = fewest_kept(machine, log, copies)
            self.same(fewest_kept(machine, log, copies, most=many), told)
            self.same(fewest_kept(machine, log, copies, most=many + 1), told)
            for most in {1, many // 2, many - 1} - {0, many}:
                self.fails(TooGreat, most, fewest_kept, machine, log, copies, most=most)

    def test_the_default(self):
        many = Machine([(1, 2, 3, 4, 5, 0), (1, 0, 2, 3, 4, 5), (0, 0, 2, 3, 4, 5)])
        log = [0, 1, 2, 1, 0] * 8
        self.fails(TooGreat, 20000, fewest_kept, many, log, [])
        told = [(state, 0) for state in range(6)]
        found = fewest_kept(many, log[:20], told)
        self.assertTrue(kept_right(many, log[:20], told, found))

    def test_limits(self):
        six = Machine([(1, 2, 3, 4, 5, 0), (0, 0, 2, 3, 4, 5), (5, 1, 2, 3, 4, 0)])
        log = [0, 0, 1, 0] * 10
        copies = [(state, age) for state in range(6) for age in range(30, 41)]
        found = fewest_kept(six, log, copies)
        self.assertTrue(kept_right(six, log, copies, found))
        self.assertTrue(all(place >= 30 for place in found))
        with self.assertRaises(TypeError):
            fewest_kept(HALL, (), [], 5)

    def test_errors_in_order(self):
        self.fails(BadLog, 1, fewest_kept, HALL, (0, 3), None, most=1)
        for value in ODD:
            if not isinstance(value, (list, tuple)):
                self.fails(BadLog, -1, fewest_kept, HALL, value, None)
        for value in WRONG_COPIES:
            self.fails(BadCopy, value, fewest_kept, HALL, (0, 0), value)
            self.fails(BadCopy, value, fewest_kept, HALL, (0, 0), value, most=1)


class RightTest(Case):
    def test_edges(self):
        self.same(kept_right(HALL, (), [], ()), True)
        self.same(kept_right(machine=HALL, log=(0, 2, 2, 1, 0), copies=[(0, 0)], value=[0]), True)
        self.same(kept_right(HALL, (0, 2, 2, 1, 0), [(0, 0)], ()), False)
        # A place ahead of the copy's age does nothing to it.
        self.same(kept_right(TURNS, (0, 0), [(0, 1)], [0]), False)
        self.same(kept_right(TURNS, (0, 0), [(0, 1)], (0, 1)), True)
        self.same(kept_right(TURNS, (0, 0), [(0, 2)], []), True)
        # No copies: all lots are enough, and what is none is not.
        for value in ((1, 0), (0, 0), (2,), (-1,), (True,), [None], None, "", "0", 0, HALL, (0, 1, 2)):
            self.same(kept_right(TURNS, (0, 0), [], value), False)
        for value in ((), [], [0], (1,), (0, 1)):
            self.same(kept_right(TURNS, (0, 0), [], value), True)

    def test_drawn(self):
        found = set()
        for draw, machine, log, copies in drawn(203, 250):
            for lot in (drawn_part(draw, len(log)), tuple(range(len(log))), fewest_kept(machine, log, copies)):
                told = is_right(machine, log, copies, lot)
                found.add(told)
                self.same(kept_right(machine, log, copies, lot), told)
                self.same(kept_right(machine, log, copies, list(lot)), told)
        self.assertEqual(found, {True, False})

    def test_bent(self):
        for _, machine, log, copies in drawn(204, 40, 4):
            for value in bent(fewest_kept(machine, log, copies)):
                is_lot = isinstance(value, (list, tuple)) and list(value) in list(map(list, lots(log)))
                told = is_lot and all(type(at) is int for at in value) and is_right(machine, log, copies, value)
                self.same(kept_right(machine, log, copies, value), told)

    def test_any_value(self):
        for value in ODD:
            if value != () and value != [0]:
                self.same(kept_right(TURNS, (), [], value), False)

    def test_errors_in_order(self):
        self.fails(BadLog, 1, kept_right, HALL, (0, 3), None, None)
        for value in WRONG_COPIES:
            self.fails(BadCopy, value, kept_right, HALL, (0, 0), value, ())
            self.fails(BadCopy, value, kept_right, HALL, (0, 0), value, None)

    def test_limits(self):
        twelve = Machine([tuple((state + 1) % 12 for state in range(12))])
        copies = [(state, age) for state in range(12) for age in range(401)]
        self.same(kept_right(twelve, [0] * 400, copies, range(400)), False)
        self.same(kept_right(twelve, [0] * 400, copies, tuple(range(400))), True)
        self.same(kept_right(twelve, [0] * 400, copies, tuple(range(1, 400))), False)
        self.same(kept_right(twelve, [0] * 400, [(3, 0)], tuple(range(12, 400))), True)
