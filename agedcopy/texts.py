"""Machines and logs as texts."""

from agedcopy.errors import BadText
from agedcopy.machines import MOST_DEEDS, MOST_STATES, MOST_TABLES, Machine, check_log


def numbers_text(numbers):
    """Some numbers with one blank between."""
    return " ".join([str(number) for number in numbers])


def numbers_by_word(many):
    """By its one word each number below `many`: so no other way to write it is taken."""
    return {str(number): number for number in range(many)}


def machine_text(machine):
    """The text of a machine: how many states, then by deed a line of the next ones."""
    lines = [f"states {machine.states}"]
    for table in machine.tables:
        lines.append(numbers_text(table))
    return "\n".join(lines)


def told_states(line):
    """How many states the first line of a machine's text tells; BadText if it is none."""
    numbers = numbers_by_word(MOST_STATES + 1)
    words = line.split(" ")
    if len(words) != 2 or words[0] != "states" or numbers.get(words[1], 0) == 0:
        raise BadText(1)
    return numbers[words[1]]


def told_table(line, states):
    """The table that a line tells, None if it tells none of so many states."""
    numbers = numbers_by_word(states)
    words = line.split(" ")
    if len(words) != states:
        return None
    for word in words:
        if word not in numbers:
            return None
    return tuple([numbers[word] for word in words])


def read_machine(text):
    """The machine that a text tells."""
    if not isinstance(text, str):
        raise BadText(0)
    lines = text.split("\n")
    states = told_states(lines[0])
    if len(lines) == 1:
        raise BadText(2)
    tables = []
    for at, line in enumerate(lines[1:]):
        table = told_table(line, states)
        if table is None or at == MOST_TABLES:
            raise BadText(at + 2)
        tables.append(table)
    return Machine(tables)


def log_text(machine, log):
    """The text of a log: its deeds, `-` for none."""
    log = check_log(machine, log)
    if len(log) == 0:
        return "-"
    return numbers_text(log)


def read_log(machine, text):
    """The log that a text tells."""
    if not isinstance(text, str):
        raise BadText(0)
    if text == "-":
        return ()
    numbers = numbers_by_word(machine.deeds)
    deeds = []
    for at, word in enumerate(text.split(" ")):
        if word not in numbers or at == MOST_DEEDS:
            raise BadText(at)
        deeds.append(numbers[word])
    return tuple(deeds)
