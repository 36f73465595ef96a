"""Copies that bear their age modulo a number: whether a number is enough, and the least one."""

from agedcopy.errors import Refused
from agedcopy.kinds import is_below, is_positive, is_sequence_of
from agedcopy.lengths import endless_walk, least_multiple, least_number, parting_kinds
from agedcopy.machines import check_starts, log_fault, state_after
from agedcopy.options import check_bound
from agedcopy.pairs import (earlier_lots, first_pairs, is_in, last_pairs, led_lot, lot_of, lots_behind, members,
                            next_lots, pair_steps)

MOST_LENGTH = 400
MOST_MODULUS = 200


def lengths_to(machine, states, most):
    """The ascending lengths, from 1 to `most`, of logs that part some of the states from itself."""
    nexts = next_lots(pair_steps(machine))
    found = {}
    for state in states:
        lasts = lot_of(last_pairs(machine, state))
        lot = lot_of(first_pairs(machine, state))
        for length in range(1, most + 1):
            lot = led_lot(nexts, lot)
            if lot & lasts != 0:
                found[length] = True
    return tuple(sorted(found))


def parting_lengths(machine, length, *, states=None):
    """The ascending lengths, from 1 to `length`, of logs that part some of the states from itself."""
    if not is_below(length, MOST_LENGTH + 1):
        raise Refused(length)
    return lengths_to(machine, check_starts(machine, states), length)


def check_modulus(value):
    """Raises Refused for any value that is no number from 1 to 200."""
    if not is_positive(value) or value > MOST_MODULUS:
        raise Refused(value)


def first_times(jumps, firsts, lasts):
    """How many jumps, told by pair, lead from one lot to another one at least; None if none do."""
    reached = firsts
    fresh = firsts
    times = 0
    while fresh != 0:
        fresh = led_lot(jumps, fresh) & ~reached
        reached |= fresh
        times += 1
        if fresh & lasts != 0:
            return times
    return None


def first_wrap(machine, modulus, states, bound):
    """The least multiple of a number that is the length of a log which parts some state from itself, and the state.

    None if there is none, or none below the bound.
    """
    jumps = lots_behind(next_lots(pair_steps(machine)), modulus)
    found = []
    for state in states:
        times = first_times(jumps, lot_of(first_pairs(machine, state)), lot_of(last_pairs(machine, state)))
        if times is not None and (bound is None or times * modulus < bound):
            found.append((times * modulus, state))
    return min(found, default=None)


def walk_of_length(machine, state, length):
    """A log of just this length that parts a state from itself, and the state from which it leads there."""
    steps = pair_steps(machine)
    back = earlier_lots(next_lots(steps))
    lots = [lot_of(last_pairs(machine, state))]
    for _ in range(length):
        lots.append(led_lot(back, lots[-1]))
    first = members(lots[length] & lot_of(first_pairs(machine, state)))[0]
    pair = first
    deeds = []
    for lot in lots[-2::-1]:
        deed, pair = [step for step in steps[pair] if is_in(lot, step[1])][0]
        deeds.append(deed)
    return first // machine.states, tuple(deeds)


def wrap_paper(machine, modulus, *, states=None, bound=None):
    """None if ages modulo a number are enough, else a log of the least length by which they are not."""
    check_modulus(modulus)
    states = check_starts(machine, states)
    check_bound(bound)
    found = first_wrap(machine, modulus, states, bound)
    if found is None:
        return None
    length, state = found
    other, log = walk_of_length(machine, state, length)
    return ("wrap", state, other, log)


def is_enough(machine, modulus, *, states=None, bound=None):
    """Whether copy, age modulo a number, and log always tell the state now."""
    check_modulus(modulus)
    states = check_starts(machine, states)
    check_bound(bound)
    return first_wrap(machine, modulus, states, bound) is None


def led_by(machine, state, logs):
    """The state to which some logs, one behind the other, lead a state."""
    for log in logs:
        state = state_after(machine, state, log)
    return state


def is_parting(machine, states, value, other, logs):
    """Whether any values are one of some states and another one that logs lead to this one, and this one elsewhere."""
    if not is_below(value, machine.states) or value not in states or not is_below(other, machine.states):
        return False
    return led_by(machine, other, logs) == value and led_by(machine, value, logs) != value


def is_turned_back(machine, state, ahead, around):
    """Whether one log leads the state to which another one leads a state back to itself."""
    turned = state_after(machine, state, ahead)
    return state_after(machine, turned, around) == turned


def wrap_holds(machine, modulus, value, *, states=None, bound=None):
    """Whether any value tells a log of such a length that parts a state from itself."""
    check_modulus(modulus)
    states = check_starts(machine, states)
    check_bound(bound)
    if not is_sequence_of(value, 4) or value[0] != "wrap":
        return False
    _, state, other, log = value
    if log_fault(machine, log) is not None or len(log) % modulus != 0:
        return False
    if bound is not None and len(log) >= bound:
        return False
    return is_parting(machine, states, state, other, (log,))


def least_wrap(machine, *, states=None, bound=None):
    """The least number that is enough, None if none is."""
    states = check_starts(machine, states)
    check_bound(bound)
    if bound is None:
        return least_number(parting_kinds(machine, states))
    return least_multiple(1, lengths_to(machine, states, bound - 1))


def never_paper(machine, *, states=None):
    """None if some number is enough, else logs of whose lengths each number has multiples."""
    for state in check_starts(machine, states):
        walk = endless_walk(machine, state)
        if walk is not None:
            other, ahead, around, behind = walk
            return ("never", state, other, ahead, around, behind)
    return None


def never_holds(machine, value, *, states=None):
    """Whether any value tells logs that part a state from itself, and of whose lengths each number has multiples."""
    states = check_starts(machine, states)
    if not is_sequence_of(value, 6) or value[0] != "never":
        return False
    _, state, other, ahead, around, behind = value
    for log in (ahead, around, behind):
        if log_fault(machine, log) is not None:
            return False
    if len(around) == 0 or (len(ahead) + len(behind)) % len(around) != 0:
        return False
    if not is_parting(machine, states, state, other, (ahead, behind)):
        return False
    return is_turned_back(machine, state, ahead, around) and is_turned_back(machine, other, ahead, around)
