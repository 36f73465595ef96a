"""The examples of the document and of the README, run as they stand."""

import doctest
import pathlib
import unittest

MACHINES_AND_LOGS = """
    >>> from agedcopy.logs import reset_paper, states_after, trail, width, width_log
    >>> from agedcopy.machines import Machine, done, state_after
    >>> from agedcopy.texts import machine_text
    >>> from agedcopy.views import finest_view, together_machines, unlike_step
    >>> worn = Machine([(1, 2, 2), (0, 0, 1)])
    >>> done(worn, (0, 1)), trail(worn, 0, (0, 0, 1)), states_after(worn, (0, 0), starts=(0, 1))
    ((0, 1, 1), (0, 1, 2, 1), (2,))
    >>> reset_paper(worn), width(Machine([(1, 2, 0)])), reset_paper(Machine([(1, 2, 0)]))
    (('reset', (0, 0)), 3, ('pair', (0, 1)))
    >>> unlike_step(worn, (0, 0, 1)), finest_view(Machine([(1, 2, 3, 0)]), [(0, 2)])
    ((0, (0, 1)), (0, 1, 0, 1))
    >>> together_machines(Machine([(1, 0)]), Machine([(1, 0)])).tables, machine_text(worn)
    (((3, 2, 1, 0),), 'states 3\\n1 2 2\\n0 0 1')
"""
AGES_AND_MARKS = """
    >>> from agedcopy.ages import age_word, parting_starts, seen_starts
    >>> from agedcopy.forests import age_forest, least_marks, lot_paper, lowest_ages, next_age, window_numbers
    >>> from agedcopy.machines import Machine
    >>> from agedcopy.marks import Marker, bounded_marks, path_marks
    >>> turns = Machine([(1, 2, 0), (0, 0, 0)])
    >>> least_marks(turns, (0, 0, 0, 0), 0), path_marks(turns, (0, 0, 0, 0), 0)
    (3, (0, 1, 2, 0, 1))
    >>> seen_starts(turns, (0, 0), 2, 0), age_word(turns, (0, 0, 0), 0, 3, 0), parting_starts(turns, (0, 0), 0, 1, 0)
    ((1,), 'met', (0, 2))
    >>> age_forest(turns, (0, 0, 0, 0), 0), lowest_ages(turns, (0, 0, 0, 0), 0), next_age(turns, (0, 1, 0), 0, 0)
    (((0, 3), (1, 4), (2, None), (3, None), (4, None)), (0, 1, 2), 2)
    >>> least_marks(turns, (0, 0, 0, 0), 0, bound=2), window_numbers(turns, (0, 0, 0, 0), 0, 2)
    (2, (1, 2, 2, 2, 2))
    >>> lot_paper(turns, (0, 0), 0)
    ('lot', (0, 1, 2), (0, 2, 1))
    >>> path_marks(turns, (0, 0, 0, 0), 0), bounded_marks(turns, (0, 0, 0, 0), 0, 2)
    ((0, 1, 2, 0, 1), (0, 1, 0, 1, 0))
    >>> marker = Marker(turns)
    >>> marker.keep(), marker.put(0), marker.keep(), marker.put(1), marker.keep(), marker.marks_at(0)
    ((0, 0, 0), 1, (1, 1, 1), 2, (1, None, None), (0, 1))
    >>> from agedcopy.readers import is_safe_marking, read_age, read_copy, unsafe_paper
    >>> read_age(turns, (0, 0, 0, 0), 0, 1), read_copy(turns, (0, 0, 0, 0, 0), 0, 1)
    (4, 1)
    >>> is_safe_marking(turns, (0,), [(0, 0, 0), (1, 1, 1)])
    True
    >>> unsafe_paper(turns, (0, 0), [(0, 0, 0)] * 3)
    ('unsafe', 0, 0, 1, 0, 2)
"""
ALL_LOGS = """
    >>> from agedcopy.machines import Machine
    >>> from agedcopy.onemark import is_one_mark, one_mark_paper, parted_holds
    >>> from agedcopy.tokens import all_most, bound_marks, first_lengths, first_log
    >>> down = Machine([(0, 0, 1, 2), (3, 1, 2, 3)])
    >>> all_most(down), first_lengths(down, 2), first_log(down, 1, 3), bound_marks(down, 2, 2)
    ((3, 3, 3, 3), (0, 1, 3), ((0, 0), (0, 1, 2)), 2)
    >>> is_one_mark(Machine([(0, 0, 2), (1, 1, 2)])), parted_holds(down, ["two", 1, [0], [0, 1]])
    (True, True)
    >>> one_mark_paper(Machine([(0, 0, 2), (1, 1, 2)])), is_one_mark(down, starts=[2])
    (('one',), True)
"""
NUMBERS = """
    >>> from agedcopy.machines import Machine
    >>> from agedcopy.wrapping import is_enough, least_wrap, never_holds, parting_lengths, wrap_holds
    >>> rings = Machine([(1, 0, 3, 4, 2, 2)])
    >>> least_wrap(rings, states=[2])
    3
    >>> parting_lengths(rings, 12), is_enough(rings, 4), is_enough(rings, 4, bound=4), least_wrap(rings, bound=4)
    ((1, 2, 3, 4, 5, 7, 8, 9, 10, 11), False, True, 4)
    >>> cell = Machine([(1, 0), (0, 1)])
    >>> least_wrap(cell), never_holds(cell, ("never", 0, 1, (0,), (1,), ()))
    (None, True)
    >>> never_holds(cell, ("never", 0, 1, (0,), (0, 0), ()))
    False
    >>> from agedcopy.onedeed import one_marks, one_rows, one_wrap, orbit_sizes
    >>> wrap_holds(rings, 4, ("wrap", 2, 3, (0, 0, 0, 0, 0, 0, 0, 0))), orbit_sizes(Machine([(1, 0, 2), (0, 2, 1)]))
    (True, (3, 3, 3))
    >>> one_rows(rings)
    (('ring', 2), ('ring', 2), ('ring', 3), ('ring', 3), ('ring', 3), ('way', 0))
    >>> one_marks(rings), one_wrap(rings), least_wrap(rings, states=[2])
    ((2, 2, 3, 3, 3, 1), 6, 3)
"""
TAILS_AND_NOTES = """
    >>> from agedcopy.machines import Machine
    >>> from agedcopy.notemachine import parting_log
    >>> from agedcopy.notes import note_of
    >>> from agedcopy.tails import needed_place, return_ages, tail_place
    >>> hall = Machine([(1, 2, 2), (0, 0, 0), (0, 2, 1)])
    >>> return_ages(hall, (2, 2, 0, 2, 2), 1, 0), tail_place(hall, (0, 1, 0), 2, 0)
    ((0, 2, 4), 1)
    >>> needed_place(hall, (0, 1, 0), [(2, 0), (1, 3)])
    1
    >>> note = note_of(hall, (2, 0))
    >>> note.possible, note.rows
    ((1, 2), (((0, 1),), ((2, 1), (1, 2), (0, 2)), ((1, 2), (0, 2))))
    >>> from agedcopy.struck import fewest_kept
    >>> note.mark(2), note.read(1, 0, (2,)), parting_log(note, note_of(hall, (0, 1)))
    (1, 1, ())
    >>> fewest_kept(hall, (0, 2, 2, 1, 0), [(0, 0)])
    (0,)
"""
PAGES = """
    >>> from agedcopy.machines import Machine
    >>> from agedcopy.pages import Pages, cell_machine, own_deeds, torn_states
    >>> from agedcopy.torn import least_spread, rounds_needed, safe_orders, shortest_word, torn_holds
    >>> bits = Pages(Machine([(0, 2, 0, 2), (0, 1, 0, 1)]), [(0, 0), (0, 1), (1, 0), (1, 1)])
    >>> own_deeds(bits), cell_machine(bits, 0), safe_orders(bits), shortest_word(bits)
    ((1,), None, ((1, 0),), (1, 0))
    >>> rounds_needed(bits, (0, 1)), rounds_needed(bits, (1, 0)), least_spread(bits)
    (2, 1, 1)
    >>> torn_states(bits, (0,), [(0, 0, 1), (1, 1, 0)]), torn_states(bits, (0, 1), [(0, 0, 1), (1, 1, 0)])
    ((0, 2), (0,))
    >>> torn_holds(bits, (0, 1), ["torn", 2, 3, [0], [0, 1]]), torn_holds(bits, (1, 0), ["torn", 2, 3, [0], [0, 1]])
    (True, False)
"""
REPLICAS = """
    >>> from agedcopy.machines import Machine
    >>> from agedcopy.replicas import fresh_ways, newer_ways, order_paper, pair_ages, pair_ends, pair_paper, told_pairs
    >>> worn, ring = Machine([(1, 2, 2)]), Machine([(1, 2, 0)])
    >>> pair_ages(worn, (0, 0), 1, 2), pair_ends(worn, (0, 0), 0, 1), told_pairs(worn), told_pairs(ring)
    (((0, 1), (0, 2), (1, 2)), (2,), ((0, 1), (0, 2), (1, 2)), ())
    >>> newer_ways(ring, (0,), 0, 1), fresh_ways(ring, (0, 0), 0, 1), pair_paper(ring, 0, 1)[:2]
    ((True, False), (True, True), ('pair', (0, 0)))
    >>> order_paper(worn, 0, 1)
    >>> from agedcopy.gaps import gap_ends, gap_paper, told_gaps
    >>> gap_ends(ring, (0, 0), 0, 1, 1), gap_paper(worn, 0)[:2], told_gaps(worn, 2), told_gaps(ring, 3)
    ((1, 2), ('gap', (0,)), (1, 2), ())
"""
BORDERS = """
    >>> from agedcopy.games import order_marks, order_script, script_holds
    >>> from agedcopy.lists import greatest_list, least_list, now_groups
    >>> from agedcopy.machines import Machine
    >>> order_marks(1, 5), order_marks(2, 2), order_marks(2, 4), order_script(2, 4, 3)
    (1, 2, 3, None)
    >>> last = ("keep", (), (None, None))
    >>> one = ("keep", (0, 1), (("drop", 0, last), ("drop", 1, last)))
    >>> other = ("keep", (0, 1), (("drop", 1, last), ("drop", 0, last)))
    >>> first = ("keep", (), (("keep", (), (None, one)), ("keep", (), (other, None))))
    >>> script_holds(2, 3, 2, first), script_holds(2, 3, 3, first)
    (True, False)
    >>> ring = Machine([(1, 2, 3, 0)])
    >>> now_groups(ring, (0, 0, 0), 0)
    ((0, (3,)), (1, (2,)), (2, (1,)), (3, (0,)))
    >>> greatest_list(ring, (0, 0, 0), 0, (0, 1, 0, 1)), least_list(ring, (0, 0, 0), 0, 3)[0]
    (2, 2)
"""
STORE = """
    >>> from agedcopy.desk import Desk
    >>> from agedcopy.machines import Machine
    >>> from agedcopy.store import Store
    >>> store = Store(Machine([(1, 2, 0)]))
    >>> store.keep(7, 0), store.do(0), store.keep(8, 0), store.do(0), store.do(0), store.keep(9, 0)
    (0, 1, 1, 2, 3, 0)
    >>> store.read(7), store.read(8), store.starts_of(8), store.came_to(), store.needed()
    (0, 2, (2,), ((0, 0, 0), (0, 1, 2)), 2)
    >>> store.trim(), store.cut, store.log, store.take_back(1), store.read(8), store.needed()
    (2, 1, (0, 0), (9,), 1, None)
    >>> desk = Desk("states 2\\n1 1")
    >>> [desk.say(line) for line in ("keep 3 0", "do 0", "keep 4 0", "keep 4 1", "read 3", "need", "starts 4", "came")]
    ['0', '1', 'refused', '0', '1', '1', '0 1', '0 0 1, 1 0 1']
"""
README = pathlib.Path(__file__).resolve().parent.parent / "README.md"


class ExampleTest(unittest.TestCase):
    def run_text(self, name, text):
        test = doctest.DocTestParser().get_doctest(text, {}, name, name, 0)
        self.assertGreater(len(test.examples), 1)
        told = []
        result = doctest.DocTestRunner(verbose=False).run(test, out=told.append)
        self.assertEqual(result.failed, 0, "".join(told))

    def test_machines_and_logs(self):
        self.run_text("machines and logs", MACHINES_AND_LOGS)

    def test_ages_and_marks(self):
        self.run_text("ages and marks", AGES_AND_MARKS)

    def test_all_logs(self):
        self.run_text("all logs", ALL_LOGS)

    def test_numbers(self):
        self.run_text("numbers", NUMBERS)

    def test_tails_and_notes(self):
        self.run_text("tails and notes", TAILS_AND_NOTES)

    def test_pages(self):
        self.run_text("pages", PAGES)

    def test_replicas(self):
        self.run_text("replicas", REPLICAS)

    def test_borders(self):
        self.run_text("borders", BORDERS)

    def test_store(self):
        self.run_text("store", STORE)

    def test_readme(self):
        self.run_text("README", README.read_text(encoding="utf-8"))
