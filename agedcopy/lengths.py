"""How long walks of pairs can be, however long.

A walk that comes to pairs from which walks lead back can be made longer: by all great multiples of the greatest number
that divides the lengths of the walks back, the pair's *gap* (0 where no walk leads back). So the lengths of the walks
along which the gaps' greatest common divisor is `gap` are, where great enough, just those that leave one rest modulo
`gap`; where it is 0, the length itself is the rest. (gap, rest) is called the *kind* of such walks.
"""

from math import gcd, lcm

from agedcopy.pairs import earlier_lots, first_pairs, last_pairs, members, next_lots, pair_steps, reached_lot
from agedcopy.walks import first_walks, log_to, things_to


def round_gap(nexts, pair, around):
    """The gap of a pair, told the lot of pairs that lie on walks back to it."""
    length = {pair: 0}
    queue = [pair]
    at = 0
    gap = 0
    while at < len(queue):
        earlier = queue[at]
        for later in members(nexts[earlier] & around):
            if later not in length:
                length[later] = length[earlier] + 1
                queue.append(later)
            gap = gcd(gap, length[earlier] + 1 - length[later])
        at += 1
    return gap


def pair_gaps(nexts):
    """By pair its gap."""
    back = earlier_lots(nexts)
    gaps = [None] * len(nexts)
    for pair in range(len(nexts)):
        if gaps[pair] is None:
            around = reached_lot(nexts, pair) & reached_lot(back, pair)
            gap = round_gap(nexts, pair, around)
            for mate in members(around | (1 << pair)):
                gaps[mate] = gap
    return gaps


def kind_steps(steps, gaps, told):
    """By deed the pair to which it leads, and the kind of the walks there, told a pair with the kind of some walks."""
    pair, gap, rest = told
    found = []
    for deed, later in steps[pair]:
        common = gcd(gap, gaps[later])
        found.append((deed, (later, common, rest + 1 if common == 0 else (rest + 1) % common)))
    return found


def kind_walks(steps, gaps, firsts):
    """The (pair, gap, rest) of all walks from some pairs, as first_walks tells them."""
    return first_walks([(pair, gaps[pair], 0) for pair in firsts], lambda told: kind_steps(steps, gaps, told))


def parting_kinds(machine, states):
    """The ascending kinds of the walks of logs that part some of the states from itself."""
    steps = pair_steps(machine)
    gaps = pair_gaps(next_lots(steps))
    kinds = {}
    for state in states:
        lasts = last_pairs(machine, state)
        for pair, gap, rest in list(kind_walks(steps, gaps, first_pairs(machine, state))):
            if pair in lasts:
                kinds[(gap, rest)] = True
    return sorted(kinds)


def divisors(gaps):
    """The ascending numbers that divide the least common multiple of some gaps."""
    found = {1: True}
    for gap in gaps:
        for part in range(1, gap + 1):
            if gap % part == 0:
                for number in list(found):
                    found[lcm(number, part)] = True
    return sorted(found)


def is_apart(number, kinds):
    """Whether no multiple of a number leaves the rest of any of some kinds with gaps."""
    return all([rest % gcd(gap, number) != 0 for gap, rest in kinds])


def least_multiple(number, lengths):
    """The least multiple of a number that divides none of some lengths."""
    found = number
    while not all([length % found != 0 for length in lengths]):
        found += number
    return found


def least_number(kinds):
    """The least number of which no multiple is the length of a walk of some kinds, None if there is none."""
    endless = [(gap, rest) for gap, rest in kinds if gap > 0]
    lengths = [rest for gap, rest in kinds if gap == 0]
    # Only what a number has in common with the gaps matters for the endless kinds.
    parts = [part for part in divisors([gap for gap, _ in endless]) if is_apart(part, endless)]
    return min([least_multiple(part, lengths) for part in parts], default=None)


def first_round(steps, pair):
    """The first log, one deed at least, that leads a pair back to itself, None if there is none."""
    came = first_walks([pair], lambda told: steps[told])
    for last in list(came):
        for deed, later in steps[last]:
            if later == pair:
                return log_to(came, last) + (deed,)
    return None


def turning_steps(steps, turn, many, told):
    """By deed what follows a pair, a walk's length modulo `many`, and whether it has passed the pair `turn`."""
    pair, rest, passed = told
    return [(deed, (later, (rest + 1) % many, passed or later == turn)) for deed, later in steps[pair]]


def walk_by(machine, steps, state, turn):
    """What endless_walk tells, told a pair that some such walk passes and from which walks lead back."""
    around = first_round(steps, turn)
    many = len(around)
    firsts = [(pair, 0, pair == turn) for pair in first_pairs(machine, state)]
    came = first_walks(firsts, lambda told: turning_steps(steps, turn, many, told))
    # Rounds of all great multiples of the gap can be put in: so some walk's length is a multiple of this round's.
    last = [(pair, 0, True) for pair in last_pairs(machine, state) if (pair, 0, True) in came][0]
    things = things_to(came, last)
    log = log_to(came, last)
    cut = [passed for _, _, passed in things].index(True)
    return (things[0][0] // machine.states, log[:cut], around, log[cut:])


def endless_walk(machine, state):
    """Another state and logs ahead, around and behind of whose lengths each number has multiples.

    However many times `around` is done, they lead the other state to this one, and this one elsewhere. None if there
    are none.
    """
    steps = pair_steps(machine)
    gaps = pair_gaps(next_lots(steps))
    lasts = last_pairs(machine, state)
    came = kind_walks(steps, gaps, first_pairs(machine, state))
    for told in list(came):
        pair, gap, rest = told
        if pair in lasts and gap > 0 and rest == 0:
            turns = [earlier for earlier, _, _ in things_to(came, told) if gaps[earlier] > 0]
            return walk_by(machine, steps, state, turns[0])
    return None
