"""The examples of the document and of the README, run as they stand."""

import doctest
import pathlib
import unittest

MACHINES_AND_LOGS = """
    >>> from agedcopy.logs import reset_paper, states_after, trail, width, width_log
    >>> from agedcopy.machines import Machine, done, state_after
    >>> from agedcopy.texts import machine_text
    >>> from agedcopy.views import finest_view, together_machines, unlike_step
    >>> worn = Machine([(1, 2, 2), (0, 0, 1)])
    >>> done(worn, (0, 1)), trail(worn, 0, (0, 0, 1)), states_after(worn, (0, 0), starts=(0, 1))
    ((0, 1, 1), (0, 1, 2, 1), (2,))
    >>> reset_paper(worn), width(Machine([(1, 2, 0)])), reset_paper(Machine([(1, 2, 0)]))
    (('reset', (0, 0)), 3, ('pair', (0, 1)))
    >>> unlike_step(worn, (0, 0, 1)), finest_view(Machine([(1, 2, 3, 0)]), [(0, 2)])
    ((0, (0, 1)), (0, 1, 0, 1))
    >>> together_machines(Machine([(1, 0)]), Machine([(1, 0)])).tables, machine_text(worn)
    (((3, 2, 1, 0),), 'states 3\\n1 2 2\\n0 0 1')
"""
AGES_AND_MARKS = """
    >>> from agedcopy.ages import age_word, parting_starts, seen_starts
    >>> from agedcopy.forests import age_forest, least_marks, lot_paper, lowest_ages, next_age, window_numbers
    >>> from agedcopy.machines import Machine
    >>> from agedcopy.marks import Marker, bounded_marks, path_marks
    >>> turns = Machine([(1, 2, 0), (0, 0, 0)])
    >>> least_marks(turns, (0, 0, 0, 0), 0), path_marks(turns, (0, 0, 0, 0), 0)
    (3, (0, 1, 2, 0, 1))
    >>> seen_starts(turns, (0, 0), 2, 0), age_word(turns, (0, 0, 0), 0, 3, 0), parting_starts(turns, (0, 0), 0, 1, 0)
    ((1,), 'met', (0, 2))
    >>> age_forest(turns, (0, 0, 0, 0), 0), lowest_ages(turns, (0, 0, 0, 0), 0), next_age(turns, (0, 1, 0), 0, 0)
    (((0, 3), (1, 4), (2, None), (3, None), (4, None)), (0, 1, 2), 2)
    >>> least_marks(turns, (0, 0, 0, 0), 0, bound=2), window_numbers(turns, (0, 0, 0, 0), 0, 2)
    (2, (1, 2, 2, 2, 2))
    >>> lot_paper(turns, (0, 0), 0)
    ('lot', (0, 1, 2), (0, 2, 1))
    >>> path_marks(turns, (0, 0, 0, 0), 0), bounded_marks(turns, (0, 0, 0, 0), 0, 2)
    ((0, 1, 2, 0, 1), (0, 1, 0, 1, 0))
    >>> marker = Marker(turns)
    >>> marker.keep(), marker.put(0), marker.keep(), marker.put(1), marker.keep(), marker.marks_at(0)
    ((0, 0, 0), 1, (1, 1, 1), 2, (1, None, None), (0, 1))
"""
README = pathlib.Path(__file__).resolve().parent.parent / "README.md"


class ExampleTest(unittest.TestCase):
    def run_text(self, name, text):
        test = doctest.DocTestParser().get_doctest(text, {}, name, name, 0)
        self.assertGreater(len(test.examples), 1)
        told = []
        result = doctest.DocTestRunner(verbose=False).run(test, out=told.append)
        self.assertEqual(result.failed, 0, "".join(told))

    def test_machines_and_logs(self):
        self.run_text("machines and logs", MACHINES_AND_LOGS)

    def test_ages_and_marks(self):
        self.run_text("ages and marks", AGES_AND_MARKS)

    def test_readme(self):
        self.run_text("README", README.read_text(encoding="utf-8"))
