"""Promise 4: the errors."""

from agedcopy import errors
from agedcopy.machines import Machine
from tests.helpers import ODD, Case

NAMES = {"BadMachine": "at", "BadLog": "at", "BadCopy": "at", "BadText": "at", "Refused": "at", "TooGreat": "most"}


class ErrorTest(Case):
    def test_base(self):
        self.assertIs(errors.AgeError.__bases__[0], ValueError)
        self.assertEqual(len(errors.AgeError.__bases__), 1)

    def test_direct_subclasses(self):
        for name in NAMES:
            self.assertEqual(getattr(errors, name).__bases__, (errors.AgeError,), name)

    def test_key_errors(self):
        self.assertEqual(errors.NoState.__bases__, (KeyError,))
        self.assertEqual(errors.NoDeed.__bases__, (KeyError,))

    def test_attributes_by_position_and_by_name(self):
        for name, attribute in (*NAMES.items(), ("NoState", "state"), ("NoDeed", "deed")):
            for value in (*ODD, {"any": 1}, object(), 10 ** 6000, Machine([(0,)])):
                error = getattr(errors, name)
                self.assertIs(getattr(error(value), attribute), value)
                self.assertIs(getattr(error(**{attribute: value}), attribute), value)

    def test_each_is_caught_as_itself_alone(self):
        for name in NAMES:
            for other in NAMES:
                is_one = issubclass(getattr(errors, name), getattr(errors, other))
                self.assertEqual(is_one, name == other)

    def test_kept_argument_is_the_very_one(self):
        value = [3, 3]
        with self.assertRaises(errors.Refused) as caught:
            raise errors.Refused(value)
        self.assertIs(caught.exception.at, value)
        value.append(4)
        self.assertEqual(caught.exception.at, [3, 3, 4])
