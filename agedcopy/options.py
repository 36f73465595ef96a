"""Ages, and the arguments that choose which ages of a log count."""

from agedcopy.errors import Refused
from agedcopy.kinds import is_ascending, is_below, is_positive


def check_age(log, value):
    """Raises Refused for any value that is no age of a log."""
    if not is_below(value, len(log) + 1):
        raise Refused(value)


def check_later_age(log, age, value):
    """Raises Refused for any value that is no age of a log greater than another one."""
    check_age(log, value)
    if value <= age:
        raise Refused(value)


def check_kept(log, value):
    """The kept ages as a tuple; all ages for None."""
    if value is None:
        return tuple(range(len(log) + 1))
    if not is_ascending(value, len(log) + 1):
        raise Refused(value)
    return tuple(value)


def check_told_bound(value):
    """Raises Refused for any value that is no number from 1 on, None too."""
    if not is_positive(value):
        raise Refused(value)


def check_bound(value):
    """Raises Refused for any value that is neither None nor a number from 1 on."""
    if value is not None:
        check_told_bound(value)


def is_within(age, now, bound):
    """Whether an age is one of the last `bound` ones, told which age is now."""
    return bound is None or age > now - bound


def counted_ages(log, kept, bound):
    """The ascending ages that count."""
    ages = check_kept(log, kept)
    check_bound(bound)
    return tuple([age for age in ages if is_within(age, len(log), bound)])
