"""Ordered pairs of unlike states, and the pairs to which deeds lead them.

The pair (one, other) has a number: one times the machine's states plus other. Two states that come to one place never
part again: so no step leads there. A lot of pairs is a number whose bits, from the least one, tell by pair whether it
is in. A log parts a state from itself if it leads one of the state's first pairs to one of its last pairs.
"""


def pair_steps(machine):
    """By pair, by deed ascending, the (deed, pair) to which deeds lead it."""
    many = machine.states
    found = []
    for one in range(many):
        for other in range(many):
            led = [(table[one], table[other]) for table in machine.tables]
            found.append([(deed, pair[0] * many + pair[1]) for deed, pair in enumerate(led) if pair[0] != pair[1]])
    return found


def first_pairs(machine, state):
    """The ascending pairs of another state and this one."""
    return [other * machine.states + state for other in range(machine.states) if other != state]


def last_pairs(machine, state):
    """The ascending pairs of this state and another one."""
    return [state * machine.states + other for other in range(machine.states) if other != state]


def lot_of(pairs):
    """The lot of some pairs."""
    lot = 0
    for pair in pairs:
        lot |= 1 << pair
    return lot


def members(lot):
    """The ascending pairs of a lot."""
    found = []
    while lot != 0:
        rest = lot & (lot - 1)
        found.append((lot ^ rest).bit_length() - 1)
        lot = rest
    return found


def is_in(lot, pair):
    """Whether a pair is in a lot."""
    return lot & (1 << pair) != 0


def next_lots(steps):
    """By pair the lot to which one step leads it."""
    return [lot_of([later for _, later in row]) for row in steps]


def earlier_lots(nexts):
    """By pair the lot from which one step leads to it."""
    found = [0] * len(nexts)
    for pair, lot in enumerate(nexts):
        for later in members(lot):
            found[later] |= 1 << pair
    return found


def led_lot(nexts, lot):
    """The lot to which one step leads a lot, told by pair where it leads."""
    found = 0
    for pair in members(lot):
        found |= nexts[pair]
    return found


def reached_lot(nexts, pair):
    """The lot to which one step or more lead a pair."""
    found = 0
    fresh = nexts[pair]
    while fresh != 0:
        found |= fresh
        fresh = led_lot(nexts, fresh) & ~found
    return found


def lots_behind(nexts, many):
    """By pair the lot to which just so many steps, one at least, lead it."""
    if many == 1:
        return nexts
    half = lots_behind(nexts, many // 2)
    found = [led_lot(half, lot) for lot in half]
    if many % 2 == 1:
        return [led_lot(nexts, lot) for lot in found]
    return found
