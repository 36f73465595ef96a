"""Promises 52, 53, 54 and 55: a store of copies, reading, cutting, deeds that never happened."""

import random

from agedcopy.errors import NoDeed, NoState, Refused
from agedcopy.machines import Machine
from agedcopy.marks import path_marks
from agedcopy.notes import note_of
from agedcopy.store import Store
from tests.helpers import ODD, RING, TURNS, WORN, Case, drawn_part, led, machines

CIRCLE = Machine([(1, 2, 0)])
HALL = Machine([(1, 2, 2), (0, 0, 0), (0, 2, 1)])


class Plain:
    """What a store tells, reckoned anew each time from all deeds that happened, with the age of each copy."""

    def __init__(self, machine, starts):
        self.machine = machine
        self.starts = list(range(machine.states)) if starts is None else list(starts)
        self.deeds = []
        self.cut = 0
        self.copies = {}

    def marks(self, state):
        return path_marks(self.machine, self.deeds, state, starts=self.starts)

    def possible(self):
        return {led(self.machine, start, self.deeds) for start in self.starts}

    def do(self, deed):
        self.deeds.append(deed)
        return len(self.deeds)

    def keep(self, disk, state):
        self.copies[disk] = (state, self.marks(state)[-1], len(self.deeds))
        return self.copies[disk][1]

    def give_up(self, disk):
        del self.copies[disk]

    def carry(self, disk, other):
        self.copies[other] = self.copies[disk]

    def renew(self, disk):
        return self.keep(disk, self.read(disk))

    def path(self, disk):
        state, mark, _ = self.copies[disk]
        return [age for age, other in enumerate(self.marks(state)) if other == mark]

    def read(self, disk):
        found = {led(self.machine, self.copies[disk][0], self.deeds[age:]) for age in self.path(disk)}
        assert len(found) == 1
        return found.pop()

    def starts_of(self, disk):
        return tuple(start for start in self.starts if any(
            led(self.machine, start, self.deeds[:age]) == self.copies[disk][0] for age in self.path(disk)))

    def disks(self):
        return tuple(sorted(self.copies))

    def copy_on(self, disk):
        return self.copies[disk][:2]

    def marks_on(self, state):
        return tuple(sorted({mark for told, mark, _ in self.copies.values() if told == state}))

    def came_to(self):
        return tuple(sorted({(*self.copies[disk][:2], self.read(disk)) for disk in self.copies}))

    def log(self):
        return tuple(self.deeds[self.cut:])

    def is_enough(self, many):
        """Whether of the last deeds each copy asks for some, from one of them to the end, or for none."""
        log = self.log()
        return all(any(led(self.machine, self.copies[disk][0], log[len(log) - tail:]) == self.read(disk)
                       for tail in range(many + 1)) for disk in self.copies)

    def needed(self):
        return next((many for many in range(len(self.log()) + 1) if self.is_enough(many)), None)

    def trim(self):
        many = self.needed()
        many = len(self.log()) if many is None else many
        self.cut = len(self.deeds) - many
        return many

    def take_back(self, many):
        self.deeds = self.deeds[:len(self.deeds) - many]
        gone = [disk for disk in self.copies if self.copies[disk][2] > len(self.deeds)]
        for disk in gone:
            del self.copies[disk]
        return tuple(sorted(gone))


def told(store):
    """All that a store tells."""
    disks = store.disks()
    return (store.age, store.cut, store.log, disks, [store.copy_on(disk) for disk in disks],
            [store.read(disk) for disk in disks], [store.starts_of(disk) for disk in disks],
            [store.marks_on(state) for state in range(store.machine.states)], store.came_to(), store.needed())


def told_plain(plain):
    disks = plain.disks()
    return (len(plain.deeds), plain.cut, plain.log(), disks, [plain.copy_on(disk) for disk in disks],
            [plain.read(disk) for disk in disks], [plain.starts_of(disk) for disk in disks],
            [plain.marks_on(state) for state in range(plain.machine.states)], plain.came_to(), plain.needed())


def drawn_call(draw, plain):
    """The name and the arguments of something that can be done now."""
    calls = [("do", draw.randrange(plain.machine.deeds))] * 5
    empty = draw.choice([disk for disk in (0, 1, 2, 3, 999) if disk not in plain.copies] or [7])
    calls += [("keep", empty, draw.choice(sorted(plain.possible())))] * 3
    if plain.copies and draw.randrange(2):
        disk = draw.choice(sorted(plain.copies))
        other = draw.choice([other for other in range(20) if other not in plain.copies])
        calls = [("renew", disk), ("give_up", disk), ("carry", disk, other)]
    if draw.randrange(6) == 0:
        calls = [("trim",), ("take_back", draw.randint(0, min(3, len(plain.log()))))]
    return draw.choice(calls)


class StoreTest(Case):
    def test_example(self):
        store = Store(CIRCLE)
        self.same([store.keep(7, 0), store.do(0), store.keep(8, 0), store.do(0), store.do(0), store.keep(9, 0)],
                  [0, 1, 1, 2, 3, 0])
        self.same([store.read(7), store.read(8), store.starts_of(8), store.came_to(), store.needed()],
                  [0, 2, (2,), ((0, 0, 0), (0, 1, 2)), 2])
        self.same([store.trim(), store.cut, store.log, store.take_back(1), store.read(8), store.needed()],
                  [2, 1, (0, 0), (9,), 1, None])

    def test_empty(self):
        for store in (Store(TURNS), Store(machine=TURNS, starts=None), Store(TURNS, starts=[0, 2])):
            self.assertEqual(store.machine, TURNS)
            self.same((store.age, store.cut, store.log, store.disks(), store.came_to(), store.needed(), store.trim()),
                      (0, 0, (), (), (), 0, 0))
            self.same((store.take_back(0), store.marks_on(1)), ((), ()))

    def test_nothing_is_returned(self):
        store = Store(TURNS)
        store.keep(disk=0, state=2)
        self.same((store.carry(disk=0, other=999), store.give_up(disk=0), store.disks()), (None, None, (999,)))

    def test_starts_are_kept_apart(self):
        starts = [0, 1]
        store = Store(TURNS, starts=starts)
        starts.append(2)
        self.fails(Refused, 2, store.keep, 0, 2)
        self.same(store.keep(0, 1), 0)

    def test_drawn(self):
        """Random calls; behind each one the store tells what a plain one does."""
        draw = random.Random(280)
        seen = set()
        for machine in machines(281, 120, 4, 3):
            starts = draw.choice([None, drawn_part(draw, machine.states, 1)])
            store, plain = Store(machine, starts=starts), Plain(machine, starts)
            for _ in range(25):
                name, *arguments = drawn_call(draw, plain)
                found = getattr(store, name)(*arguments)
                self.same(found, getattr(plain, name)(*arguments))
                self.same(told(store), told_plain(plain))
                seen.add((name, bool(found), store.needed() is None))
        for name in ("do", "keep", "renew", "trim", "take_back"):
            self.assertIn((name, True, False), seen)
        self.assertIn(("take_back", True, True), seen)
        self.assertIn(("trim", False, True), seen)

    def test_marks_are_those_of_a_note(self):
        draw = random.Random(282)
        for machine in machines(283, 80, 4, 3):
            store = Store(machine)
            for disk in range(12):
                store.do(draw.randrange(machine.deeds))
                note = note_of(machine, store.log)
                state = draw.choice(note.possible)
                mark = note.mark(state)
                self.same(store.keep(disk, state), mark)
                for kept in store.disks():
                    self.same(store.read(kept), note.read(*store.copy_on(kept)))

    def test_no_disk_changes_marks(self):
        """Marks hang on the deeds heard alone, not on which copies were kept or given up."""
        draw = random.Random(284)
        for machine in machines(285, 60, 4, 3):
            full, bare = Store(machine), Store(machine)
            for disk in range(10):
                deed = draw.randrange(machine.deeds)
                full.do(deed)
                bare.do(deed)
                state = draw.choice([state for state in range(machine.states) if state in
                                     {led(machine, start, full.log) for start in range(machine.states)}])
                full.keep(disk, state)
                bare.keep(5, state)
                self.same(full.copy_on(disk), bare.copy_on(5))
                bare.give_up(5)


class ReadingTest(Case):
    def test_starts_lead_to_what_is_read(self):
        draw = random.Random(286)
        for machine in machines(287, 80, 4, 3):
            store = Store(machine)
            deeds = []
            for disk in range(8):
                if disk:
                    deeds.append(draw.randrange(machine.deeds))
                    store.do(deeds[-1])
                possible = sorted({led(machine, start, deeds) for start in range(machine.states)})
                store.keep(disk, draw.choice(possible))
            for disk in store.disks():
                state, _ = store.copy_on(disk)
                starts = store.starts_of(disk)
                self.same({led(machine, start, deeds) for start in starts}, {store.read(disk)})
                # The copy was kept at the age of its disk's number: who showed it then is among them.
                showing = {start for start in range(machine.states) if led(machine, start, deeds[:disk]) == state}
                self.assertLessEqual(showing, set(starts))

    def test_a_table_led_on_by_deeds(self):
        """What came_to tells, led on deed by deed, reads all copies without a log."""
        draw = random.Random(288)
        for machine in machines(289, 80, 4, 3):
            store = Store(machine)
            for disk in range(4):
                store.do(draw.randrange(machine.deeds))
                store.keep(disk, led(machine, 0, store.log))
            table = {(state, mark): now for state, mark, now in store.came_to()}
            for _ in range(5):
                deed = draw.randrange(machine.deeds)
                store.do(deed)
                table = {copy: machine.tables[deed][now] for copy, now in table.items()}
                for disk in store.disks():
                    self.same(store.read(disk), table[store.copy_on(disk)])

    def test_renewed_copies(self):
        store = Store(CIRCLE)
        store.keep(0, 1)
        store.do(0)
        self.same((store.renew(disk=0), store.copy_on(0), store.needed(), store.read(0)), (1, (2, 1), 0, 2))
        store.do(0)
        self.same((store.renew(0), store.copy_on(disk=0), store.starts_of(disk=0)), (2, (0, 2), (1,)))
        store.do(0)
        # Now the path of mark 0 is back: the start that shows the state now is the one that showed it first.
        self.same((store.renew(0), store.copy_on(disk=0), store.starts_of(disk=0)), (0, (1, 0), (1,)))

    def test_marks_on(self):
        store = Store(CIRCLE)
        for disk in (30, 20, 10):
            store.keep(disk, 0)
            store.do(0)
        store.carry(30, 40)
        self.same((store.marks_on(state=0), store.marks_on(1), store.disks()), ((0, 1, 2), (), (10, 20, 30, 40)))
        store.give_up(20)
        self.same((store.marks_on(0), store.came_to()), ((0, 2), ((0, 0, 0), (0, 2, 1))))


class CutTest(Case):
    def test_cut_to_nothing(self):
        store = Store(HALL)
        store.keep(1, 0)
        store.do(1)
        self.same((store.needed(), store.trim(), store.cut, store.log, store.age), (0, 0, 1, (), 1))
        self.same((store.read(1), store.starts_of(1), store.take_back(0)), (0, (0, 1, 2), ()))
        self.fails(Refused, 1, store.take_back, 1)
        self.same((store.do(0), store.do(1), store.needed(), store.log), (2, 3, 0, (0, 1)))
        self.same((store.do(0), store.needed(), store.trim(), store.cut, store.log), (4, 1, 1, 3, (0,)))

    def test_with_a_deed_less_some_copy_cannot_be_redone(self):
        draw = random.Random(290)
        found = set()
        for machine in machines(291, 150, 4, 3):
            store = Store(machine)
            for disk in range(6):
                if draw.randrange(2):
                    store.keep(disk, led(machine, draw.randrange(machine.states), store.log))
                store.do(draw.randrange(machine.deeds))
            many = store.needed()
            found.add(many)
            if many:
                tails = [store.log[at:] for at in range(len(store.log) - many + 1, len(store.log) + 1)]
                self.assertTrue(any(all(led(machine, store.copy_on(disk)[0], tail) != store.read(disk)
                                        for tail in tails) for disk in store.disks()))
        self.assertLessEqual({0, 1, 2, 3}, found)

    def test_trim_changes_nothing_else(self):
        draw = random.Random(292)
        for machine in machines(293, 80, 4, 3):
            cut, whole = Store(machine), Store(machine)
            for disk in range(15):
                deed = draw.randrange(machine.deeds)
                state = led(machine, draw.randrange(machine.states), whole.log)
                for store in (cut, whole):
                    store.keep(disk, state)
                    store.do(deed)
                if draw.randrange(3) == 0:
                    self.same(cut.trim(), whole.needed())
                self.same(told(cut)[3:], told(whole)[3:])
                self.same((cut.age, cut.log), (whole.age, whole.log[cut.cut:]))

    def test_cut_and_taken_back(self):
        store = Store(CIRCLE)
        store.keep(0, 0)
        for _ in range(5):
            store.do(0)
        self.same((store.needed(), store.trim(), store.cut, store.log), (2, 2, 3, (0, 0)))
        self.same((store.take_back(2), store.age, store.log, store.needed(), store.read(0)), ((), 3, (), 0, 0))
        self.same((store.do(0), store.needed(), store.trim(), store.cut), (4, 1, 1, 3))

    def test_all_of_the_log_is_too_short(self):
        store = Store(RING)
        store.keep(0, 0)
        for _ in range(3):
            store.do(0)
        store.keep(1, 0)
        store.do(0)
        self.same((store.needed(), store.trim(), store.cut, store.log), (1, 1, 3, (0,)))
        # A turn back, three turns are asked of no deed at all.
        self.same((store.take_back(1), store.read(0), store.read(1), store.needed()), ((), 3, 0, None))
        self.same((store.trim(), store.cut, store.age, store.log, store.read(0)), (0, 3, 3, (), 3))
        self.same((store.do(0), store.needed(), store.trim(), store.log), (4, 1, 1, (0,)))
        self.same((store.give_up(0), store.take_back(1), store.needed()), (None, (), 0))

    def test_all_of_a_log_that_is_too_short_stays(self):
        store = Store(CIRCLE)
        store.keep(7, 0)
        store.do(0)
        store.keep(8, 0)
        store.do(0)
        store.do(0)
        self.same((store.trim(), store.cut, store.take_back(1), store.needed()), (2, 1, (), None))
        self.same((store.trim(), store.cut, store.log, store.age), (1, 1, (0,), 2))
        self.same((store.read(7), store.read(8), store.came_to()), (2, 1, ((0, 0, 2), (0, 1, 1))))
        # Without the copy that asks for two turns the rest is enough.
        self.same((store.give_up(7), store.needed(), store.trim(), store.log), (None, 1, 1, (0,)))

class BackTest(Case):
    def test_disks_that_become_empty(self):
        store = Store(CIRCLE)
        for disk in (5, 3, 4):
            store.keep(disk, 0)
            store.do(0)
        store.carry(3, 9)
        store.carry(4, 1)
        self.same((store.take_back(many=1), store.disks()), ((), (1, 3, 4, 5, 9)))
        self.same((store.take_back(1), store.disks(), store.age), ((1, 4), (3, 5, 9), 1))
        self.same((store.keep(4, 2), store.take_back(1), store.disks()), (1, (3, 4, 9), (5,)))

    def test_renewed_and_given_up(self):
        store = Store(CIRCLE)
        store.keep(0, 0)
        store.keep(1, 0)
        store.keep(2, 0)
        store.do(0)
        store.renew(0)
        store.carry(1, 3)
        store.give_up(1)
        # The renewed copy was kept behind the deed; what was carried has the age of the first one.
        self.same((store.take_back(1), store.disks(), store.age, store.read(3)), ((0,), (2, 3), 0, 0))

    def test_as_if_never_heard(self):
        draw = random.Random(294)
        for machine in machines(295, 120, 4, 3):
            back, never = Store(machine), Store(machine)
            for disk in range(12):
                state = led(machine, draw.randrange(machine.states), never.log)
                for store in (back, never):
                    store.keep(disk, state)
                many = draw.randint(0, 3)
                for more in range(many):
                    back.do(draw.randrange(machine.deeds))
                    back.keep(100 + more, led(machine, draw.randrange(machine.states), back.log))
                self.same(back.take_back(many), tuple(range(100, 100 + many)))
                self.same(told(back), told(never))
                deed = draw.randrange(machine.deeds)
                self.same(back.do(deed), never.do(deed))

    def test_behind_a_cut(self):
        """A trimmed store goes back as far as its log, and tells what one that was not trimmed tells."""
        draw = random.Random(296)
        short = 0
        for machine in machines(297, 150, 4, 3):
            cut, whole = Store(machine), Store(machine)
            for disk in range(20):
                state = led(machine, draw.randrange(machine.states), whole.log)
                deed = draw.randrange(machine.deeds)
                for store in (cut, whole):
                    store.keep(disk, state)
                    store.do(deed)
                if draw.randrange(3) == 0:
                    cut.trim()
                if draw.randrange(3) == 0:
                    many = draw.randint(0, len(cut.log))
                    self.same(cut.take_back(many), whole.take_back(many))
                self.same(told(cut)[3:-1], told(whole)[3:-1])
                short += cut.needed() is None
        self.assertGreater(short, 0)


class ErrorTest(Case):
    def test_starts(self):
        for value in (*ODD, (), [], [1, 0], [0, 0], [3], 0):
            if value is not None:
                with self.assertRaises(Refused) as caught:
                    Store(TURNS, starts=value)
                self.assertIs(caught.exception.at, value)

    def test_in_order_and_changing_nothing(self):
        store = Store(TURNS, starts=[0, 1])
        store.keep(4, 0)
        store.do(0)
        store.keep(999, 2)
        before = told(store)
        for value in (*ODD, 2):
            self.fails(NoDeed, value, store.do, value)
        for value in (*ODD, 4, 999, 1000):
            self.fails(Refused, value, store.keep, value, None)
        for value in (*ODD, 3):
            self.fails(NoState, value, store.keep, 5, value)
            self.fails(NoState, value, store.marks_on, value)
        self.fails(Refused, 0, store.keep, 5, 0)
        for value in (*ODD, 5, 1000):
            for call in (store.copy_on, store.give_up, store.renew, store.read, store.starts_of):
                self.fails(Refused, value, call, value)
            self.fails(Refused, value, store.carry, value, None)
        for value in (*ODD, 4, 999, 1000):
            self.fails(Refused, value, store.carry, 4, value)
        for value in (*ODD, 2):
            self.fails(Refused, value, store.take_back, value)
        self.same(told(store), before)

    def test_limits(self):
        ring = Machine([tuple((state + 1) % 12 for state in range(12)), (1, 0, *range(2, 12))])
        store = Store(ring)
        for age in range(400):
            if age % 8 == 0:
                store.keep(age // 8, age % 12)
            store.do(0 if age % 5 else 1)
        self.same((len(store.disks()), store.age), (50, 400))
        many = store.needed()
        self.same((store.trim(), len(store.log), store.cut), (many, many, 400 - many))
        for _ in range(100):
            store.do(0)
            self.same(store.take_back(1), ())
            store.trim()
        self.same((store.age, len(store.disks())), (400, 50))
