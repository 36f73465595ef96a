"""How many marks are enough if copies are given up in any order, and scripts by which too few marks run out.

The rules of a game are (width, living, marks): the most living copies that are parted two by two, the most living
copies, and how many marks there are.
"""

from itertools import combinations

from agedcopy.bundles import (living_numbers, numbers_in, parted_marks, position_key, width_of, with_copy,
                              with_drop)
from agedcopy.errors import Refused
from agedcopy.kinds import is_ascending, is_below, is_integer, is_sequence_of

MOST_WIDTH = 3
MOST_LIVING = 5
MOST_MARKS = 5


def check_to(value, most):
    """Raises Refused for any value that is no number from 1 to some number."""
    if not is_integer(value) or not 1 <= value <= most:
        raise Refused(value)


def check_rules(width, living):
    """Raises Refused for any value that is no width or no number of living copies."""
    check_to(width, MOST_WIDTH)
    check_to(living, MOST_LIVING)


def is_kept_within(rules, position, met):
    """Whether a copy that has met some bundles, told by their indexes, may be kept by the rules."""
    if len(living_numbers(position)) >= rules[1]:
        return False
    return width_of(with_copy(position, met, 0, 0)) <= rules[0]


def met_choices(rules, position):
    """The indexes of bundles that a copy may have met which is kept by the rules."""
    indexes = list(range(len(position)))
    return [met for many in range(len(position) + 1) for met in combinations(indexes, many)
            if is_kept_within(rules, position, met)]


def answered(rules, position, met, number):
    """By mark the position once a copy with this mark and a number is kept, None where it cannot get the mark."""
    barred = parted_marks(position, met)
    return [None if mark in barred else with_copy(position, met, number, mark) for mark in range(rules[2])]


def moves_from(rules, position, number):
    """The moves from a position, told the number of the next copy.

    A move is ("drop", copy, positions) or ("keep", indexes of bundles met, positions by mark, None as above).
    """
    drops = [("drop", copy, [with_drop(position, copy)]) for copy in living_numbers(position)]
    return drops + [("keep", met, answered(rules, position, met, number)) for met in met_choices(rules, position)]


def keys_of(positions):
    """The keys of some positions, those that are None left out."""
    return [position_key(position) for position in positions if position is not None]


def all_moves(rules):
    """By key of each position that comes about the keys to which each move from it may lead."""
    queue = [()]
    found = {position_key(()): []}
    at = 0
    while at < len(queue):
        position = queue[at]
        number = max(living_numbers(position), default=-1) + 1
        rows = found[position_key(position)]
        for _, _, positions in moves_from(rules, position, number):
            rows.append(keys_of(positions))
            for later in positions:
                if later is not None and position_key(later) not in found:
                    found[position_key(later)] = []
                    queue.append(later)
        at += 1
    return found


def steps_left(rules):
    """By key of a position from which marks can be made to run out in how many steps they do at the latest."""
    moves = all_moves(rules)
    left = {}
    fresh = list(moves)
    steps = 0
    while fresh != []:
        steps += 1
        fresh = [key for key, rows in moves.items()
                 if key not in left and any([all([later in left for later in row]) for row in rows])]
        for key in fresh:
            left[key] = steps
    return left


def order_marks(width, living):
    """The fewest marks that always do, whichever copies are kept, met and given up."""
    check_rules(width, living)
    marks = 1
    while position_key(()) in steps_left((width, living, marks)):
        marks += 1
    return marks


def script_from(rules, left, position, number):
    """A shortest script by which marks run out from a position, told the number of the next copy."""
    here = left[position_key(position)]
    for word, told, positions in moves_from(rules, position, number):
        if all([left.get(key, here) < here for key in keys_of(positions)]):
            if word == "drop":
                return (word, told, script_from(rules, left, positions[0], number))
            met = sorted([copy for at in told for copy in numbers_in(position[at])])
            answers = [None if later is None else script_from(rules, left, later, number + 1) for later in positions]
            return (word, tuple(met), tuple(answers))
    return None


def order_script(width, living, marks):
    """None if so many marks always do, else a script by which they run out."""
    check_rules(width, living)
    check_to(marks, MOST_MARKS)
    rules = (width, living, marks)
    left = steps_left(rules)
    if position_key(()) not in left:
        return None
    return script_from(rules, left, (), 0)


def bundles_met(position, number, value):
    """The indexes of the bundles of which any value tells all copies, ascending; None if it tells no such copies."""
    if not is_ascending(value, number):
        return None
    met = [at for at, bundle in enumerate(position) if numbers_in(bundle)[0] in value]
    if sorted([copy for at in met for copy in numbers_in(position[at])]) != list(value):
        return None
    return met


def is_keep(rules, position, number, met, answers):
    """Whether any values tell which copies a new one has met, and by mark how a script goes on."""
    indexes = bundles_met(position, number, met)
    if indexes is None or not is_kept_within(rules, position, indexes) or not is_sequence_of(answers, rules[2]):
        return False
    for later, answer in zip(answered(rules, position, indexes, number), answers):
        if later is None and answer is not None:
            return False
        if later is not None and not is_script(rules, later, number + 1, answer):
            return False
    return True


def is_script(rules, position, number, value):
    """Whether any value is a script by which marks run out from a position, told the number of the next copy."""
    if not is_sequence_of(value, 3):
        return False
    if value[0] == "keep":
        return is_keep(rules, position, number, value[1], value[2])
    if value[0] != "drop" or not is_below(value[1], number) or value[1] not in living_numbers(position):
        return False
    return is_script(rules, with_drop(position, value[1]), number, value[2])


def script_holds(width, living, marks, value):
    """Whether any value is a script by which so many marks run out."""
    check_rules(width, living)
    check_to(marks, MOST_MARKS)
    return is_script((width, living, marks), (), 0, value)
