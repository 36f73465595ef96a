"""What kind of thing any value is; nothing here raises an error."""


def is_integer(value):
    """Whether a value is an integer; bools are none."""
    return isinstance(value, int) and not isinstance(value, bool)


def is_below(value, many):
    """Whether a value is a number less than `many`."""
    return is_integer(value) and 0 <= value < many


def is_number(value):
    """Whether a value is an integer from 0 on."""
    return is_integer(value) and value >= 0


def is_positive(value):
    """Whether a value is a number from 1 on."""
    return is_integer(value) and value > 0


def is_sequence(value):
    """Whether a value is a list or a tuple."""
    return isinstance(value, (list, tuple))


def is_sequence_of(value, length):
    """Whether a value is a list or a tuple of so many items."""
    return is_sequence(value) and len(value) == length


def is_ascending(value, many):
    """Whether a value is a sequence of numbers less than `many`, each greater than the one ahead of it."""
    if not is_sequence(value):
        return False
    least = 0
    for item in value:
        if not is_below(item, many) or item < least:
            return False
        least = item + 1
    return True


def fault_place(value, many):
    """The index of the first item of a sequence that is no number less than `many`, None if there is none."""
    for at, item in enumerate(value):
        if not is_below(item, many):
            return at
    return None
