"""Promises 38, 39 and 40: pages, own deeds and torn states."""

import itertools
import random

from agedcopy.errors import BadLog, NoState, Refused
from agedcopy.machines import Machine
from agedcopy.pages import Pages, cell_machine, cell_value, own_deeds, torn_states
from tests.helpers import ODD, TURNS, Case, drawn_log, drawn_machine, led

BITS = Pages(Machine([(0, 2, 0, 2), (0, 1, 0, 1)]), [(0, 0), (0, 1), (1, 0), (1, 1)])


def drawn_pages(draw, states=5, deeds=3, width=3):
    """A machine with unlike rows of cells; few values, so that cells agree often."""
    machine = drawn_machine(draw, states, deeds)
    while True:
        many = draw.randint(1, width)
        worth = draw.sample(range(60), draw.randint(2, 4))
        rows = list(itertools.product(worth, repeat=many))
        if len(rows) >= machine.states:
            return Pages(machine, draw.sample(rows, machine.states))


def pages_drawn(seed, number, states=5, deeds=3, width=3):
    draw = random.Random(seed)
    return [drawn_pages(draw, states, deeds, width) for _ in range(number)]


def is_own(pages, cell, deed):
    """Whether states with one value in a cell are led to states with one value in it."""
    after = pages.machine.tables[deed]
    return all(pages.cells[after[one]][cell] == pages.cells[after[other]][cell]
               for one in range(pages.machine.states) for other in range(pages.machine.states)
               if pages.cells[one][cell] == pages.cells[other][cell])


class PagesTest(Case):
    def test_attributes(self):
        self.same((BITS.cells, BITS.width), (((0, 0), (0, 1), (1, 0), (1, 1)), 2))
        self.assertEqual(BITS.machine, Machine([(0, 2, 0, 2), (0, 1, 0, 1)]))
        one = Pages(machine=Machine([(0,)]), cells=([59],))
        self.same((one.cells, one.width), (((59,),), 1))
        four = Pages(TURNS, ([0, 0, 0, 1], (0, 0, 0, 2), [0, 0, 0, 0]))
        self.same((four.cells, four.width), (((0, 0, 0, 1), (0, 0, 0, 2), (0, 0, 0, 0)), 4))

    def test_later_changes_have_no_effect(self):
        cells = [[0], [1], [2]]
        pages = Pages(TURNS, cells)
        cells[0][0] = 7
        cells.append([9])
        self.same(pages.cells, ((0,), (1,), (2,)))

    def test_equal(self):
        self.assertEqual(Pages(TURNS, [[0], [1], [2]]), Pages(Machine(TURNS.tables), ((0,), (1,), (2,))))
        for other in (Pages(TURNS, [[0], [2], [1]]), Pages(TURNS, [[0, 0], [1, 0], [2, 0]]), TURNS, None, 0,
                      Pages(Machine([(1, 2, 0)]), [[0], [1], [2]]), ((0,), (1,), (2,))):
            self.assertNotEqual(Pages(TURNS, [[0], [1], [2]]), other)
            self.assertFalse(Pages(TURNS, [[0], [1], [2]]) == other)

    def test_errors(self):
        for value in (*ODD, (), [], [[0], [1]], [[0], [1], [2], [3]], [[0], [1], [1]], [[0], [1], (0,)],
                      [[0], [1], [2, 2]], [[0, 0], [1, 0], [2]], [[], [], []], [[0] * 5, [1] * 5, [2] * 5],
                      [[0], [1], [60]], [[0], [1], [-1]], [[0], [1], [True]], [[0], [1], [None]], [[0], [1], "2"],
                      [0, 1, 2], "012", [[0], [1], [[2]]], [[0], [1], 2], [[0], [1], ["2"]], [[0], [1], None]):
            self.fails(Refused, value, Pages, TURNS, value)

    def test_one_state(self):
        for value in ((), ((),), [[]], [0], [[0], [1]]):
            with self.assertRaises(Refused) as caught:
                Pages(Machine([(0,)]), value)
            self.assertIs(caught.exception.at, value)

    def test_cell_value(self):
        self.same([cell_value(BITS, state, cell) for state in range(4) for cell in range(2)],
                  [0, 0, 0, 1, 1, 0, 1, 1])
        self.same(cell_value(pages=BITS, state=2, cell=0), 1)
        for value in (*ODD, 4):
            self.fails(NoState, value, cell_value, BITS, value, None)
        for value in (*ODD, 2):
            self.fails(Refused, value, cell_value, BITS, 0, value)


class OwnTest(Case):
    def test_examples(self):
        self.same((own_deeds(BITS), cell_machine(BITS, 0)), ((1,), None))

    def test_edges(self):
        self.same(own_deeds(Pages(Machine([(0,), (0,)]), [[5, 6]])), (0, 1))
        found = cell_machine(pages=Pages(Machine([(0,), (0,)]), [[5, 6]]), cell=1)
        self.same((found[0].tables, found[1]), (((0,), (0,)), (6,)))
        # One cell that tells the state: its machine is the whole one, its states in the order of its values.
        found = cell_machine(Pages(TURNS, [[9], [3], [6]]), 0)
        self.same((found[0].tables, found[1]), (((1, 2, 0), (2, 2, 2)), (3, 6, 9)))
        for value in (*ODD, 2):
            self.fails(Refused, value, cell_machine, BITS, value)

    def test_a_cell_of_its_own_beside_one_that_is_not(self):
        # The second cell counts on by itself; the first one takes what the second one was.
        pages = Pages(Machine([(1, 2, 1, 2)]), [(0, 0), (0, 1), (1, 0), (1, 1)])
        self.same((own_deeds(pages), cell_machine(pages, 0)), ((), None))
        machine, values = cell_machine(pages, 1)
        self.same((machine.tables, values), (((1, 0),), (0, 1)))

    def test_drawn(self):
        seen = set()
        for pages in pages_drawn(210, 300):
            own = tuple(deed for deed in range(pages.machine.deeds)
                        if all(is_own(pages, cell, deed) for cell in range(pages.width)))
            self.same(own_deeds(pages), own)
            for cell in range(pages.width):
                found = cell_machine(pages, cell)
                told = all(is_own(pages, cell, deed) for deed in range(pages.machine.deeds))
                self.assertEqual(found is not None, told)
                seen.add(told)
                if told:
                    self.check_machine(pages, cell, *found)
        self.assertEqual(seen, {True, False})

    def check_machine(self, pages, cell, machine, values):
        self.assertIs(type(values), tuple)
        self.assertEqual(list(values), sorted({row[cell] for row in pages.cells}))
        self.assertEqual(machine.states, len(values))
        for deed, table in enumerate(pages.machine.tables):
            for state, later in enumerate(table):
                at = values.index(pages.cells[state][cell])
                self.assertEqual(values[machine.tables[deed][at]], pages.cells[later][cell])

    def test_cells_can_be_read_each_by_itself(self):
        """Where a cell has a machine of its own, its log leads the cell's value as the whole one leads the state."""
        draw = random.Random(211)
        for pages in pages_drawn(212, 100):
            log = drawn_log(draw, pages.machine, 5)
            for cell in range(pages.width):
                found = cell_machine(pages, cell)
                if found is not None:
                    for state in range(pages.machine.states):
                        at = found[1].index(pages.cells[state][cell])
                        self.assertEqual(found[1][led(found[0], at, log)],
                                         pages.cells[led(pages.machine, state, log)][cell])


class TornStatesTest(Case):
    def test_examples(self):
        self.same(torn_states(BITS, (0,), [(0, 0, 1), (1, 1, 0)]), (0, 2))
        self.same(torn_states(BITS, (0, 1), [(0, 0, 1), (1, 1, 0)]), (0,))

    def test_edges(self):
        self.same(torn_states(BITS, (), []), (0, 1, 2, 3))
        self.same(torn_states(pages=BITS, log=[0], kept=()), (0, 2))
        self.same(torn_states(BITS, (), [(0, 0, 59)]), ())
        self.same(torn_states(BITS, (0,), [[0, 0, 0], [0, 0, 1]]), ())
        # In any order, one cell as often as one likes.
        self.same(torn_states(BITS, (1, 0), ([1, 2, 0], [0, 0, 1], [0, 2, 0], (0, 0, 1), (1, 0, 0))), (0,))

    def test_drawn(self):
        draw = random.Random(213)
        sizes = set()
        for pages in pages_drawn(214, 300):
            log = drawn_log(draw, pages.machine, 5)
            kept = []
            for _ in range(draw.randint(0, 4)):
                cell, age = draw.randrange(pages.width), draw.randint(0, len(log))
                kept.append((cell, age, pages.cells[draw.randrange(pages.machine.states)][cell]))
            told = {led(pages.machine, start, log) for start in range(pages.machine.states)
                    if all(pages.cells[led(pages.machine, start, log[:age])][cell] == worth
                           for cell, age, worth in kept)}
            sizes.add(len(told))
            self.same(torn_states(pages, log, kept), tuple(sorted(told)))
        self.assertLessEqual({0, 1, 2, 3}, sizes)

    def test_errors_in_order(self):
        self.fails(BadLog, 1, torn_states, BITS, (0, 2), None)
        for value in ODD:
            if value != ():
                self.fails(Refused, value, torn_states, BITS, (0, 0), value)
        for item in (*ODD, (), (0, 0), (0, 0, 0, 0), (2, 0, 0), (-1, 0, 0), (0, 3, 0), (0, -1, 0), (0, 0, 60),
                     (0, 0, -1), (True, 0, 0), (0, False, 0), (0, 0, True), (None, 0, 0), (0, None, 0), (0, 0, None),
                     ([0], 0, 0), "000", (0, 0, (0,)), (0, 0, BITS)):
            for value in ([item], ((0, 0, 0), item)):
                self.fails(Refused, value, torn_states, BITS, (0, 0), value)

    def test_limits(self):
        ring = Machine([tuple((state + 1) % 12 for state in range(12))])
        pages = Pages(ring, [(state % 2, state % 3, state // 2, 0) for state in range(12)])
        kept = [(at % 4, at, pages.cells[(5 + at) % 12][at % 4]) for at in range(400)]
        self.same(torn_states(pages, [0] * 400, kept), ((5 + 400) % 12,))
