"""The examples of the document and of the README, run as they stand."""

import doctest
import pathlib
import unittest

MACHINES_AND_LOGS = """
    >>> from agedcopy.logs import reset_paper, states_after, trail, width, width_log
    >>> from agedcopy.machines import Machine, done, state_after
    >>> from agedcopy.views import finest_view, together_machines, unlike_step
    >>> worn = Machine([(1, 2, 2), (0, 0, 1)])
    >>> done(worn, (0, 1)), trail(worn, 0, (0, 0, 1)), states_after(worn, (0, 0), starts=(0, 1))
    ((0, 1, 1), (0, 1, 2, 1), (2,))
    >>> reset_paper(worn), width(Machine([(1, 2, 0)])), reset_paper(Machine([(1, 2, 0)]))
    (('reset', (0, 0)), 3, ('pair', (0, 1)))
    >>> unlike_step(worn, (0, 0, 1)), finest_view(Machine([(1, 2, 3, 0)]), [(0, 2)])
    ((0, (0, 1)), (0, 1, 0, 1))
    >>> together_machines(Machine([(1, 0)]), Machine([(1, 0)])).tables
    ((3, 2, 1, 0),)
"""
README = pathlib.Path(__file__).resolve().parent.parent / "README.md"


class ExampleTest(unittest.TestCase):
    def run_text(self, name, text):
        test = doctest.DocTestParser().get_doctest(text, {}, name, name, 0)
        self.assertGreater(len(test.examples), 1)
        told = []
        result = doctest.DocTestRunner(verbose=False).run(test, out=told.append)
        self.assertEqual(result.failed, 0, "".join(told))

    def test_machines_and_logs(self):
        self.run_text("machines and logs", MACHINES_AND_LOGS)

    def test_readme(self):
        self.run_text("README", README.read_text(encoding="utf-8"))
