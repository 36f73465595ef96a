"""Torn copies: which words of cells, kept one behind the other, always tell the state, and which do not.

Lots of pairs are those of agedcopy.pairs. Two runs are *alike so far* if each cell that was kept had one value in both.
"""

from itertools import permutations

from agedcopy.errors import Refused
from agedcopy.kinds import fault_place, is_below, is_sequence, is_sequence_of
from agedcopy.logs import trail
from agedcopy.machines import log_fault
from agedcopy.pairs import led_lot, lot_of, members, next_lots, pair_steps, reached_lot
from agedcopy.walks import first_walks, log_to, things_to

MOST_WORD = 40


def check_word(pages, value):
    """Raises Refused for any value that is no sequence of 1 to 40 cells."""
    if not is_sequence(value) or not 1 <= len(value) <= MOST_WORD or fault_place(value, pages.width) is not None:
        raise Refused(value)


def check_order(pages, value):
    """Raises Refused for any value that is no order of all cells."""
    if not is_sequence_of(value, pages.width) or fault_place(value, pages.width) is not None:
        raise Refused(value)
    if len(set(value)) < pages.width:
        raise Refused(value)


def unlike_lot(pages):
    """The lot of all pairs."""
    many = pages.machine.states
    return lot_of([one * many + other for one in range(many) for other in range(many) if one != other])


def led_lots(pages):
    """By pair the lot to which deeds, or none, lead it."""
    nexts = next_lots(pair_steps(pages.machine))
    return [(1 << pair) | reached_lot(nexts, pair) for pair in range(len(nexts))]


def alike_lots(pages):
    """By cell the lot of pairs that are alike in it."""
    many = pages.machine.states
    pairs = members(unlike_lot(pages))
    return [lot_of([pair for pair in pairs if pages.cells[pair // many][cell] == pages.cells[pair % many][cell]])
            for cell in range(pages.width)]


def left_lot(led, alike, lot, word):
    """The pairs that may be there once a word is kept, and deeds behind it done, told a lot that deeds do not leave."""
    for cell in word:
        lot = led_lot(led, lot & alike[cell])
    return lot


def is_told_by(pages, word):
    """Whether a word of cells is safe."""
    return left_lot(led_lots(pages), alike_lots(pages), unlike_lot(pages), word) == 0


def is_safe(pages, word):
    """Whether a word of cells always tells the state behind the log."""
    check_word(pages, word)
    return is_told_by(pages, word)


def torn_steps(machine, gone_on, told):
    """By deed the pair to which it leads, and what has been kept once all that can be is kept there, too."""
    one, other, kept = told
    found = []
    for deed, table in enumerate(machine.tables):
        if table[one] != table[other]:
            found.append((deed, (table[one], table[other], gone_on(table[one], table[other], kept))))
    return found


def torn_walk(pages, gone_on, whole):
    """The log and the things (one, other, kept) along a shortest walk of unlike pairs by which all is kept, or None.

    `gone_on` tells what has been kept of two runs that are alike so far: to keep cells as early as possible is best.
    """
    states = range(pages.machine.states)
    firsts = [(one, other, gone_on(one, other, 0)) for one in states for other in states if one < other]
    came = first_walks(firsts, lambda told: torn_steps(pages.machine, gone_on, told))
    for told in list(came):
        if told[2] == whole:
            return (log_to(came, told), things_to(came, told))
    return None


def first_ages(things, is_kept, many):
    """By number below `many` the first age at which it is kept."""
    return tuple([len([kept for _, _, kept in things if not is_kept(kept, number)]) for number in range(many)])


def torn_paper(pages, gone_on, whole, is_kept, many):
    """The paper of a shortest torn walk; that the state is always told if there is none."""
    found = torn_walk(pages, gone_on, whole)
    if found is None:
        return ("safe",)
    log, things = found
    one, other, _ = things[0]
    return ("torn", one, other, log, first_ages(things, is_kept, many))


def more_of_word(pages, word, one, other, kept):
    """How many cells of a word have been kept once all that can be is kept of two states."""
    while kept < len(word) and pages.cells[one][word[kept]] == pages.cells[other][word[kept]]:
        kept += 1
    return kept


def word_paper(pages, word):
    """That a word is safe, or two starts, a shortest log and ages by which it is not."""
    check_word(pages, word)
    return torn_paper(pages, lambda one, other, kept: more_of_word(pages, word, one, other, kept), len(word),
                      lambda kept, place: place < kept, len(word))


def are_alike_at(pages, runs, log, cells, ages):
    """Whether any value tells by cell an age of a log at which two runs are alike in the cell."""
    if not is_sequence_of(ages, len(cells)) or fault_place(ages, len(log) + 1) is not None:
        return False
    one, other = runs
    return all([pages.cells[one[age]][cell] == pages.cells[other[age]][cell] for cell, age in zip(cells, ages)])


def is_torn(pages, cells, value):
    """Whether any value tells two runs of a log, alike in some cells at told ages, that come to unlike states."""
    if not is_sequence_of(value, 5) or value[0] != "torn":
        return False
    _, one, other, log, ages = value
    for start in (one, other):
        if not is_below(start, pages.machine.states):
            return False
    if log_fault(pages.machine, log) is not None:
        return False
    runs = [trail(pages.machine, start, log) for start in (one, other)]
    return runs[0][-1] != runs[1][-1] and are_alike_at(pages, runs, log, cells, ages)


def torn_holds(pages, word, value):
    """Whether any value tells two runs that a word does not tell apart, though they come to unlike states."""
    check_word(pages, word)
    return is_torn(pages, word, value) and all([age <= later for age, later in zip(value[4], value[4][1:])])


def safe_orders(pages):
    """The ascending orders of all cells, each cell once, that are safe words."""
    return tuple([order for order in permutations(range(pages.width)) if is_told_by(pages, order)])


def last_lots(pages, order):
    """The lots left behind 0, 1, .. rounds of an order, until none is left or a round changes nothing more."""
    led = led_lots(pages)
    alike = alike_lots(pages)
    lots = [unlike_lot(pages)]
    while lots[-1] != 0:
        lot = left_lot(led, alike, lots[-1], order)
        if lot == lots[-1]:
            return lots
        lots.append(lot)
    return lots


def rounds_needed(pages, order):
    """How many times in a row an order of all cells must be kept to be safe, None if that never does."""
    check_order(pages, order)
    lots = last_lots(pages, order)
    if lots[-1] != 0:
        return None
    return len(lots) - 1


def stuck_pairs(pages):
    """The ascending pairs of states that can be there, not parted yet, however often all cells were kept."""
    many = pages.machine.states
    lot = last_lots(pages, tuple(range(pages.width)))[-1]
    return tuple([(pair // many, pair % many) for pair in members(lot) if pair // many < pair % many])


def shortest_word(pages):
    """The least of the shortest safe words, None if there is none."""
    led = led_lots(pages)
    alike = alike_lots(pages)
    whole = unlike_lot(pages)
    if whole == 0:
        return (0,)
    came = first_walks([whole], lambda lot: [(cell, led_lot(led, lot & same)) for cell, same in enumerate(alike)])
    return log_to(came, 0) if 0 in came else None


def more_of_cells(pages, one, other, kept):
    """Which cells, as bits, have been kept once all that can be is kept of two states."""
    for cell in range(pages.width):
        if pages.cells[one][cell] == pages.cells[other][cell]:
            kept |= 1 << cell
    return kept


def any_order_paper(pages):
    """That each cell kept once always tells the state, or two starts, a shortest log and ages by which it does not."""
    return torn_paper(pages, lambda one, other, kept: more_of_cells(pages, one, other, kept), (1 << pages.width) - 1,
                      lambda kept, cell: kept & (1 << cell) != 0, pages.width)


def any_torn_holds(pages, value):
    """Whether any value tells two runs that cells kept once do not tell apart, though they come to unlike states."""
    return is_torn(pages, tuple(range(pages.width)), value)


def least_spread(pages):
    """The least number of deeds between the first and the last cell kept behind which the state may not be told."""
    paper = any_order_paper(pages)
    if paper == ("safe",):
        return None
    return len(paper[3])
